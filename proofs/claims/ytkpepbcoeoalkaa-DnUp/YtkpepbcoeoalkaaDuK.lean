import Derived.Test.YtkpepbcoeoalkaaDuJ
namespace Go.Proofs.Ytkpepbcoeoalkaa
namespace Du
open Go.RowKit Go.Shelf
open GSeq (StB SeqG range_g range_gn)
set_option linter.unusedVariables false
set_option maxRecDepth 1000000
attribute [local go_sem] Oper.semAt_some

/-- What is no row of cells stays. -/
def Nc (A W : World) : Prop := ∀ (k : Nat) (o : Obj), A.heap[k]? = some o → o.isCells = false → W.heap[k]? = some o
theorem Nc.keeps {A W W' : World} (h : Nc A W) (hk : KeepsFrom 0 W W') : Nc A W' := fun k o h1 h2 => hk.same k o (Nat.zero_le _) (h k o h1 h2) h2
theorem Nc.own {A W W' : World} {B : Nat} {row : Option Nat} (h : Nc A W) (hg : W.grownBy W' row) (hr : Hb B W row) (hB : A.heap.size ≤ B) (hs : A.heap.size ≤ W.heap.size) : Nc A W' := fun k o h1 h2 => by
  have hk : k < A.heap.size := (Array.getElem?_eq_some_iff.1 h1).1
  rw [hg.block k (by omega) (fun e => by have := (hr k e.symm).1; omega)]
  exact h k o h1 h2
theorem GE.box {B0 b : Nat} {W : World} {x : El} {v : Value} (h : GE x B0 W) (hb : Bx W b 3 v) (u : Value) : GE x B0 (W.setCell ⟨b, 0, none⟩ u) := by
  refine ⟨owns_same h.1 (fun d hd => Below.heap_setCell _ _ _ _ (fun e => ?_)), fun r hr => owns_same (h.2 r hr) (fun d hd => Below.heap_setCell _ _ _ _ (fun e => ?_))⟩
  · have e' : d = b := e
    subst e'
    rcases h.1.2 with ⟨e, _⟩ | ⟨g, cap, cur, e, _, h4, _⟩
    · rw [e] at hd; cases hd
    · rw [e] at hd
      injection hd with hd
      subst hd
      rw [hb] at h4
      injection h4 with h4
      injection h4 with _ h4 _
      exact absurd h4 (by decide)
  · have e' : d = b := e
    subst e'
    rcases (show W.ownsRow B0 38 2 _ _ _ from h.2 r hr).2 with ⟨e, _⟩ | ⟨g, cap, cur, e, _, h4, _⟩
    · rw [e] at hd; cases hd
    · rw [e] at hd
      injection hd with hd
      subst hd
      rw [hb] at h4
      injection h4 with h4
      injection h4 with _ h4 _
      exact absurd h4 (by decide)
/-- What a ranging keeps. -/
def RgI (wM A : World) (pre : List El) (W : World) : Prop := Bx W wM.heap.size 3 (.int .i64 (pre.length : Int)) ∧ Below wM.heap.size wM W ∧ Nc A W ∧ A.heap.size ≤ W.heap.size
theorem rgI_own {wM A : World} {B : Nat} (hB : A.heap.size ≤ B) (hA : wM.heap.size ≤ A.heap.size) : OwnFrom B (RgI wM A) := fun s W W' row h hg hr => ⟨h.1.own hg hr, below_own h.2.1 hg hr (by omega) (Nat.le_refl _), h.2.2.1.own hg hr hB h.2.2.2, Nat.le_trans h.2.2.2 hg.size⟩

set_option maxHeartbeats 4000000 in
theorem range_one (wM A : World) (sb bw bq : Nat) (wa : Option Addr) (wc n : Nat) (sa : Option Addr) (sc : Nat) (L Ks : List PX) (B E kb g : Nat) (st : Int) (D : List Deferred) (Q : Exit → Act → World → Prop)
    {v0 v1 v2 v4 v6 v7 v9 v10 v11 v12 v13 v14 v15 v16 v17 v18 v19 v20 v21 v22 v23 v24 v25 v26 v27 v28 v30 v31 v32 v33 v34 v35 v36 v37 v38 v39 v40 v41 v42 v43 v44 v45 v46 v47 v48 v49 v50 v51 v52 v53 v54 v55 v56 v57 v58 v59 v60 v61 v62 v63 v64 v65 v66 v67 v68 v69 v70 v71 v72 v73 v74 v75 v76 v77 v78 v79 v80 v81 v82 v83 v84 v85 v86 v87 v88 v89 v90 v91 v92 v93 v94 v95 v96 v97 v98 v99 v100 v101 v102 v103 v104 v105 v106 v107 v108 v109 v110 v111 v112 v113 v114 v115 v116 : Value}
    (hBs : Bs sb bw bq wa wc n sa sc L Ks B E kb g st wM) (hA : RgI wM A [] A)
    (hn : ∀ d W', A.heap.size ≤ d → RgI wM A [] W' ∨ True → Bx W' wM.heap.size 3 (.int .i64 ((n : Int) + 1)) → Below wM.heap.size wM W' → Nc A W' → W'.heap[d]? = some (.deferred (some [])) → Q .normal { tmps := (List.toArray (v0 :: v1 :: v2 :: (.pointer (some ⟨sb, 0, none⟩)) :: v4 :: (.pointer (some ⟨bw, 0, none⟩)) :: v6 :: v7 :: (.pointer (some ⟨wM.heap.size, 0, none⟩)) :: v9 :: v10 :: v11 :: v12 :: v13 :: v14 :: v15 :: v16 :: v17 :: v18 :: v19 :: v20 :: v21 :: v22 :: v23 :: v24 :: v25 :: v26 :: v27 :: v28 :: (.func (.func 11) #[] #[.pointer (some ⟨kb, 0, none⟩)]) :: v30 :: v31 :: v32 :: v33 :: v34 :: v35 :: v36 :: v37 :: v38 :: v39 :: v40 :: v41 :: v42 :: v43 :: v44 :: v45 :: v46 :: v47 :: v48 :: v49 :: v50 :: v51 :: v52 :: v53 :: v54 :: v55 :: v56 :: v57 :: v58 :: v59 :: v60 :: v61 :: v62 :: v63 :: v64 :: v65 :: v66 :: v67 :: v68 :: v69 :: v70 :: v71 :: v72 :: v73 :: v74 :: v75 :: v76 :: v77 :: v78 :: v79 :: v80 :: v81 :: v82 :: v83 :: v84 :: v85 :: v86 :: v87 :: v88 :: v89 :: v90 :: v91 :: v92 :: v93 :: v94 :: v95 :: v96 :: v97 :: v98 :: v99 :: v100 :: v101 :: v102 :: v103 :: v104 :: v105 :: v106 :: v107 :: v108 :: v109 :: v110 :: v111 :: v112 :: v113 :: v114 :: v115 :: v116 :: [])), defers := { target := .collected d, args := #[] } :: D } W')
    (hx : ∀ d W', A.heap.size ≤ d → Bx W' wM.heap.size 3 (.int .i64 st) → Below wM.heap.size wM W' → Nc A W' → W'.heap[d]? = some (.deferred (some [])) → Q (.exit 0) { tmps := (List.toArray (v0 :: v1 :: v2 :: (.pointer (some ⟨sb, 0, none⟩)) :: v4 :: (.pointer (some ⟨bw, 0, none⟩)) :: v6 :: v7 :: (.pointer (some ⟨wM.heap.size, 0, none⟩)) :: v9 :: v10 :: v11 :: v12 :: v13 :: v14 :: v15 :: v16 :: v17 :: v18 :: v19 :: v20 :: v21 :: v22 :: v23 :: v24 :: v25 :: v26 :: v27 :: v28 :: (.func (.func 11) #[] #[.pointer (some ⟨kb, 0, none⟩)]) :: v30 :: v31 :: v32 :: v33 :: v34 :: v35 :: v36 :: v37 :: v38 :: v39 :: v40 :: v41 :: v42 :: v43 :: v44 :: v45 :: v46 :: v47 :: v48 :: v49 :: v50 :: v51 :: v52 :: v53 :: v54 :: v55 :: v56 :: v57 :: v58 :: v59 :: v60 :: v61 :: v62 :: v63 :: v64 :: v65 :: v66 :: v67 :: v68 :: v69 :: v70 :: v71 :: v72 :: v73 :: v74 :: v75 :: v76 :: v77 :: v78 :: v79 :: v80 :: v81 :: v82 :: v83 :: v84 :: v85 :: v86 :: v87 :: v88 :: v89 :: v90 :: v91 :: v92 :: v93 :: v94 :: v95 :: v96 :: v97 :: v98 :: v99 :: v100 :: v101 :: v102 :: v103 :: v104 :: v105 :: v106 :: v107 :: v108 :: v109 :: v110 :: v111 :: v112 :: v113 :: v114 :: v115 :: v116 :: [])), defers := { target := .collected d, args := #[] } :: D } W')
    (c : Code) (hc : (Try.f3.body.bind fun b => (rngs b)[0]?) = some c) :
    c.wpIn Fence.wide 8 Try.prog Q { tmps := (List.toArray (v0 :: v1 :: v2 :: (.pointer (some ⟨sb, 0, none⟩)) :: v4 :: (.pointer (some ⟨bw, 0, none⟩)) :: v6 :: v7 :: (.pointer (some ⟨wM.heap.size, 0, none⟩)) :: v9 :: v10 :: v11 :: v12 :: v13 :: v14 :: v15 :: v16 :: v17 :: v18 :: v19 :: v20 :: v21 :: v22 :: v23 :: v24 :: v25 :: v26 :: v27 :: v28 :: (.func (.func 11) #[] #[.pointer (some ⟨kb, 0, none⟩)]) :: v30 :: v31 :: v32 :: v33 :: v34 :: v35 :: v36 :: v37 :: v38 :: v39 :: v40 :: v41 :: v42 :: v43 :: v44 :: v45 :: v46 :: v47 :: v48 :: v49 :: v50 :: v51 :: v52 :: v53 :: v54 :: v55 :: v56 :: v57 :: v58 :: v59 :: v60 :: v61 :: v62 :: v63 :: v64 :: v65 :: v66 :: v67 :: v68 :: v69 :: v70 :: v71 :: v72 :: v73 :: v74 :: v75 :: v76 :: v77 :: v78 :: v79 :: v80 :: v81 :: v82 :: v83 :: v84 :: v85 :: v86 :: v87 :: v88 :: v89 :: v90 :: v91 :: v92 :: v93 :: v94 :: v95 :: v96 :: v97 :: v98 :: v99 :: v100 :: v101 :: v102 :: v103 :: v104 :: v105 :: v106 :: v107 :: v108 :: v109 :: v110 :: v111 :: v112 :: v113 :: v114 :: v115 :: v116 :: [])), defers := D } A := by
  have hMA : wM.heap.size < A.heap.size := hA.1.lt
  have hc2 : some _ = some c := hc
  injection hc2 with hc3
  rw [← hc3]
  clear hc hc3
  have hE : E ≤ wM.heap.size := hBs.2.2.2.2.2.2.1
  have hKE : KeptE B E kb g n Ks A := hBs.2.2.2.2.2.1.move (RngK.of_below hA.2.1 hE)
  have hsdK : sd Ks = sd L := hBs.2.2.2.2.2.2.2.1
  have hLn : (sd L).length = n := by rw [sd_len]; exact hBs.2.2.2.1
  have hn1 : n ≤ 5864062014634 := hBs.2.2.2.2.2.2.2.2.1
  have hseq := up_stops 7 (by omega) B E kb g n Ks A hKE (by omega) hBs.2.2.2.2.2.2.2.2.2.2 hn1
  rw [hsdK] at hseq
  refine range_g rfl (by omega) (gf := 11) (lb := #[.pointer (some ⟨kb, 0, none⟩)]) rfl trivial (enters_of Try.func11 (by kernel_rfl) rfl)
    hseq RngK.trans (rngK_put (by omega)) (Below.refl _ _) (fun _ => rfl)
    (RgI wM A) (fun c pre W => c = .exit 0 ∧ RgI wM A pre W ∧ (pre.length : Int) = st ∧ pre.length ≤ n + 1) (rgI_own (Nat.le_refl _) (by omega)) (fun c => fun s W W' row h hg hr => ⟨h.1, rgI_own (Nat.le_refl _) (by omega) _ _ _ _ h.2.1 hg hr, h.2.2⟩) hA
    (fun pre x B0 a' W => a' = { tmps := (List.toArray (v0 :: v1 :: v2 :: (.pointer (some ⟨sb, 0, none⟩)) :: v4 :: (.pointer (some ⟨bw, 0, none⟩)) :: v6 :: v7 :: (.pointer (some ⟨wM.heap.size, 0, none⟩)) :: (.slice (some ⟨x.1, 0, none⟩) x.2.length x.2.length) :: v10 :: v11 :: v12 :: v13 :: v14 :: v15 :: v16 :: v17 :: v18 :: v19 :: v20 :: v21 :: v22 :: v23 :: v24 :: v25 :: v26 :: v27 :: v28 :: (.func (.func 11) #[] #[.pointer (some ⟨kb, 0, none⟩)]) :: (.slice (some ⟨x.1, 0, none⟩) x.2.length x.2.length) :: v31 :: v32 :: v33 :: v34 :: v35 :: v36 :: v37 :: v38 :: v39 :: v40 :: v41 :: v42 :: v43 :: v44 :: v45 :: v46 :: v47 :: v48 :: v49 :: v50 :: v51 :: v52 :: v53 :: v54 :: v55 :: v56 :: v57 :: v58 :: v59 :: v60 :: v61 :: v62 :: v63 :: v64 :: v65 :: v66 :: v67 :: v68 :: v69 :: v70 :: v71 :: v72 :: v73 :: v74 :: v75 :: v76 :: v77 :: v78 :: v79 :: v80 :: v81 :: v82 :: v83 :: v84 :: v85 :: v86 :: v87 :: v88 :: v89 :: v90 :: v91 :: v92 :: v93 :: v94 :: v95 :: v96 :: v97 :: v98 :: v99 :: v100 :: v101 :: v102 :: v103 :: v104 :: v105 :: v106 :: v107 :: v108 :: v109 :: v110 :: v111 :: v112 :: v113 :: v114 :: v115 :: v116 :: [])), defers := [] } ∧ GE x B0 W ∧ RgI wM A pre W ∧ sd x.2 = (sd L).drop pre.length)
    ?hAx ?assign ?body ?done ?stop
  case hAx =>
    rintro pre x B0 a' _ W W' row ⟨h1, h2, h3, h4⟩ hg hr
    exact ⟨h1, h2.own hg hr, rgI_own (Nat.le_refl _) (by omega) _ _ _ _ h3 hg hr, h4⟩
  case stop =>
    rintro d c pre W hd _ ⟨rfl, ⟨h1, h2, h3, h4⟩, h5, h6⟩ hK
    rw [h5] at h1
    exact wpIn_exit (hx d W hd h1 h2 h3 hK)
  case done =>
    rintro d xs W hd hxs ⟨h1, h2, h3, h4⟩ hK
    have hl : xs.length = n + 1 := by
      have := congrArg List.length hxs
      rw [ups_len, hLn] at this
      simpa [sds] using this
    rw [hl] at h1
    exact hn d W hd (Or.inr trivial) (by simpa using h1) h2 h3 hK
  case assign =>
    rintro l' pre x Wa W K hIa hbW hIw hG hSp hlen hwl hK
    have hat := (sd_at hSp).2
    have hK' : Hid (∀ a' W', KeepsFrom A.heap.size W W' → RngK B E W W' → (a' = { tmps := (List.toArray (v0 :: v1 :: v2 :: (.pointer (some ⟨sb, 0, none⟩)) :: v4 :: (.pointer (some ⟨bw, 0, none⟩)) :: v6 :: v7 :: (.pointer (some ⟨wM.heap.size, 0, none⟩)) :: (.slice (some ⟨x.1, 0, none⟩) x.2.length x.2.length) :: v10 :: v11 :: v12 :: v13 :: v14 :: v15 :: v16 :: v17 :: v18 :: v19 :: v20 :: v21 :: v22 :: v23 :: v24 :: v25 :: v26 :: v27 :: v28 :: (.func (.func 11) #[] #[.pointer (some ⟨kb, 0, none⟩)]) :: (.slice (some ⟨x.1, 0, none⟩) x.2.length x.2.length) :: v31 :: v32 :: v33 :: v34 :: v35 :: v36 :: v37 :: v38 :: v39 :: v40 :: v41 :: v42 :: v43 :: v44 :: v45 :: v46 :: v47 :: v48 :: v49 :: v50 :: v51 :: v52 :: v53 :: v54 :: v55 :: v56 :: v57 :: v58 :: v59 :: v60 :: v61 :: v62 :: v63 :: v64 :: v65 :: v66 :: v67 :: v68 :: v69 :: v70 :: v71 :: v72 :: v73 :: v74 :: v75 :: v76 :: v77 :: v78 :: v79 :: v80 :: v81 :: v82 :: v83 :: v84 :: v85 :: v86 :: v87 :: v88 :: v89 :: v90 :: v91 :: v92 :: v93 :: v94 :: v95 :: v96 :: v97 :: v98 :: v99 :: v100 :: v101 :: v102 :: v103 :: v104 :: v105 :: v106 :: v107 :: v108 :: v109 :: v110 :: v111 :: v112 :: v113 :: v114 :: v115 :: v116 :: [])), defers := [] } ∧ GE x Wa.heap.size W' ∧ RgI wM A pre W' ∧ sd x.2 = (sd L).drop pre.length) → K a' W') := hK
    have hfin : Hid (GE x Wa.heap.size W ∧ RgI wM A pre W ∧ sd x.2 = (sd L).drop pre.length) := ⟨hG, hIw, hat⟩
    clear hK hbW hIa hIw hG hSp hlen hwl hat hn hx hBs hA hKE hseq
    dsimp only [encE]
    gi_wp2
    exact hK'.out _ _ (KeepsFrom.refl _ _) (RngK.refl _ _ _) ⟨rfl, hfin.out⟩
  case body =>
    rintro l pre x B0 a' U hl hlr ⟨rfl, hG, ⟨hk, hUM, hnc, hAU⟩, hat⟩ hlen
    obtain ⟨p, hp⟩ : ∃ p, pre.length = p := ⟨_, rfl⟩
    rw [hp] at hat hlen hk
    obtain ⟨wb, wo, rfl, hcell, hsame⟩ := hBs.at hUM p hlen
    have hS : Hid (Calls Try.prog 9 #[.slice (some ⟨x.1, 0, none⟩) x.2.length x.2.length, .slice (cutA sa p sc) (n - p) (sc - p)] U fun e w' => e = .returned (.bool true) ∧ ∃ q, w' = U.drewN q) := hsame x B0 U hUM hG hat
    have cn := hk.cell
    have cw : U.cell? ⟨bw, 0, none⟩ = some (.slice (some ⟨wb, wo, none⟩) (n + 1) wc) := (hBs.1.2.1.below hUM hBs.1.2.1.lt).cell
    have p0 : (0 : Int) ≤ (p : Int) := Int.natCast_nonneg _
    have p1 : (p : Int) < ((n + 1 : Nat) : Int) := by omega
    have p2 : ¬ ((n : Int) + 1 ≤ (p : Int)) := by omega
    have nb : (n : Int) ≤ 5864062014634 := by omega
    have hmain : Hid (Below wM.heap.size wM U ∧ Bx U wM.heap.size 3 (.int .i64 (p : Int)) ∧ pre.length = p ∧ E ≤ wM.heap.size ∧ Nc A U ∧ A.heap.size ≤ U.heap.size ∧ p < n + 1 ∧ wM.heap.size < A.heap.size) := ⟨hUM, hk, hp, hE, hnc, hAU, hlen, hMA⟩
    have cst : U.cell? ⟨sb, 0, none⟩ = some (.int .i64 st) := (hBs.1.1.below hUM hBs.1.1.lt).cell
    have hsbne : Hid (sb ≠ wM.heap.size) := by have := hBs.1.1.lt; unfold Hid; omega
    obtain ⟨W3, hW3⟩ : ∃ W3 : Nat → World, ∀ q, (U.drewN q).setCell ⟨wM.heap.size, 0, none⟩ (.int .i64 ((p : Int) + 1)) = W3 q := ⟨_, fun q => rfl⟩
    have hdr : Hid (∀ q, (U.drewN q).cell? ⟨wM.heap.size, 0, none⟩ = some (.int .i64 (p : Int)) ∧ (U.drewN q).frozen? ⟨wM.heap.size, 0, none⟩ = false ∧ (W3 q).cell? ⟨wM.heap.size, 0, none⟩ = some (.int .i64 ((p : Int) + 1)) ∧ (W3 q).cell? ⟨sb, 0, none⟩ = some (.int .i64 st)) := fun q => by
      have gb1 : Bx (U.drewN q) wM.heap.size 3 (.int .i64 (p : Int)) := hk
      have gs0 : Bx U sb 3 (.int .i64 st) := hBs.1.1.below hUM hBs.1.1.lt
      have gs1 : Bx (U.drewN q) sb 3 (.int .i64 st) := gs0
      refine ⟨gb1.cell, gb1.frozen, ?_, ?_⟩
      · rw [← hW3 q]; exact (gb1.set _).cell
      · rw [← hW3 q]; exact (gs1.other hsbne.out _).cell
    have hfin : Hid (∀ q, KeepsFrom A.heap.size U (W3 q) ∧ RngK B E U (W3 q) ∧ RgI wM A (pre ++ [x]) (W3 q)) := fun q => by
      obtain ⟨g1, g2, g3, g4, g5, g6, g7, g8⟩ := hmain.out
      have gb1 : Bx (U.drewN q) wM.heap.size 3 (.int .i64 (p : Int)) := g2
      have bq' : Below U.heap.size U (U.drewN q) := drewN_below _ _ _
      have k0 : ∀ C, KeepsFrom C U (W3 q) := fun C => by rw [← hW3 q]; exact (keeps_below bq').trans (keeps_box gb1 _)
      refine ⟨k0 _, ?_, ?_, ?_, g5.keeps (k0 0), Nat.le_trans g6 (k0 0).size⟩
      · rw [← hW3 q]
        exact (RngK.of_below bq' (by have := g1.size; omega)).trans ⟨by simp, fun k _ hk => Below.heap_setCell _ _ _ _ (show k ≠ wM.heap.size by omega)⟩
      · rw [List.length_append, g3, ← hW3 q]
        have := gb1.set (.int .i64 ((p : Int) + 1))
        simpa using this
      · rw [← hW3 q]
        exact (g1.trans (bq'.mono g1.size)).setCell (p := ⟨wM.heap.size, 0, none⟩) (Nat.le_refl _) _
    have hpl : Hid (pre.length = p ∧ p < n + 1) := ⟨hp, hlen⟩
    generalize cutA sa p sc = ca at *
    obtain ⟨xn, hxn⟩ : ∃ xn, x.2.length = xn := ⟨_, rfl⟩
    obtain ⟨xg, hxg⟩ : ∃ xg, x.1 = xg := ⟨_, rfl⟩
    rw [hxn, hxg] at hS ⊢
    clear hxn hxg hG hk hat hUM hn hx hBs hA hKE hseq hl hlr hp hsame hlen hnc hAU cst
    try dsimp only
    by_cases hst : (p : Int) + 1 = st
    · have hstb : ((p : Int) + 1 == st) = true := beq_iff_eq.2 hst
      have hst' : Hid ((p : Int) + 1 = st) := hst
      clear hst
      gi_wp2_with (refine ⟨trivial, ?_⟩; gi_at_call 9; refine (CallsIn.inRound l (callsIn_wide.2 hS.out)).mono ?_; rintro e W2 ⟨rfl, q, rfl⟩; have hd := hdr.out q; have hw3 := hW3 q; obtain ⟨hd1, hd2, hd3, hd4⟩ := hd)
      obtain ⟨f1, f2, f3⟩ := hfin.out q
      exact ⟨f1, rfl, f3, by rw [List.length_append, hpl.out.1]; simpa using hst'.out, by rw [List.length_append, hpl.out.1]; exact hpl.out.2⟩
    · have hstb : ((p : Int) + 1 == st) = false := beq_eq_false_iff_ne.2 hst
      clear hst
      gi_wp2_with (refine ⟨trivial, ?_⟩; gi_at_call 9; refine (CallsIn.inRound l (callsIn_wide.2 hS.out)).mono ?_; rintro e W2 ⟨rfl, q, rfl⟩; have hd := hdr.out q; have hw3 := hW3 q; obtain ⟨hd1, hd2, hd3, hd4⟩ := hd)
      exact hfin.out q
end Du
end Go.Proofs.Ytkpepbcoeoalkaa
