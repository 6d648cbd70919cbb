import Derived.Test.YtkpepbcoeoalkaaDuO
namespace Go.Proofs.Ytkpepbcoeoalkaa
namespace Du
open Go.RowKit Go.Shelf
open GSeq (StB SeqG range_g range_gn)
set_option linter.unusedVariables false
set_option maxRecDepth 1000000
attribute [local go_sem] Oper.semAt_some

/-- A box. -/
def Bx (W : World) (b : Nat) (t : TypeId) (v : Value) : Prop := W.heap[b]? = some (.cells #[v] t (0, 0))
theorem Bx.cell {W : World} {b : Nat} {t : TypeId} {v : Value} (h : Bx W b t v) : W.cell? ⟨b, 0, none⟩ = some v := by rw [cell_of_row _ _ _ _ _ _ h]; rfl
theorem Bx.frozen {W : World} {b : Nat} {t : TypeId} {v : Value} (h : Bx W b t v) : W.frozen? ⟨b, 0, none⟩ = false := Go.frozen_of_row _ _ _ _ _ h
theorem Bx.lt {W : World} {b : Nat} {t : TypeId} {v : Value} (h : Bx W b t v) : b < W.heap.size := (Array.getElem?_eq_some_iff.1 h).1
theorem Bx.below {W W' : World} {b C : Nat} {t : TypeId} {v : Value} (h : Bx W b t v) (hb : Below C W W') (hc : b < C) : Bx W' b t v := (hb.block b hc).trans h
theorem Bx.set {W : World} {b : Nat} {t : TypeId} {v : Value} (h : Bx W b t v) (u : Value) : Bx (W.setCell ⟨b, 0, none⟩ u) b t u := Go.heap_setCell_same _ _ _ _ _ _ h
theorem Bx.other {W : World} {b d j : Nat} {t : TypeId} {v : Value} (h : Bx W b t v) (hd : b ≠ d) (u : Value) : Bx (W.setCell ⟨d, j, none⟩ u) b t v := (Below.heap_setCell _ _ _ _ hd).trans h
theorem Bx.new (W : World) (t : TypeId) (v : Value) : Bx (W.alloc (.cells #[v] t)) W.heap.size t v := heap_alloc_new _ _
def Hb (B : Nat) (W : World) (row : Option Nat) : Prop := ∀ r, row = some r → B ≤ r ∧ ∃ o : Obj, W.heap[r]? = some o ∧ o.isCells = false
theorem cells_own {B : Nat} {W W' : World} {row : Option Nat} {b : Nat} {cs : Array Value} {t : TypeId} {fz : Nat × Nat} (h : W.heap[b]? = some (.cells cs t fz)) (hg : W.grownBy W' row) (hr : Hb B W row) : W'.heap[b]? = W.heap[b]? := by
  refine hg.block b (Array.getElem?_eq_some_iff.1 h).1 (fun e => ?_)
  obtain ⟨_, o, h1, h2⟩ := hr b e.symm
  rw [h] at h1
  injection h1 with h1
  subst h1
  cases h2
theorem Bx.own {B : Nat} {W W' : World} {row : Option Nat} {b : Nat} {t : TypeId} {v : Value} (h : Bx W b t v) (hg : W.grownBy W' row) (hr : Hb B W row) : Bx W' b t v := (cells_own h hg hr).trans h
theorem below_own {B C : Nat} {V W W' : World} {row : Option Nat} (h : Below C V W) (hg : W.grownBy W' row) (hr : Hb B W row) (hC : C ≤ B) (hV : C ≤ V.heap.size) : Below C V W' :=
  ⟨hg.os.trans h.os, hg.tape.trans h.tape, hg.output.trans h.output, Nat.le_trans h.size hg.size, fun k hk => (hg.block k (by have := h.size; omega) (fun e => by have := (hr k e.symm).1; omega)).trans (h.block k hk)⟩
theorem GE.own {B0 B : Nat} {W W' : World} {row : Option Nat} {x : El} (h : GE x B0 W) (hg : W.grownBy W' row) (hr : Hb B W row) : GE x B0 W' := by
  refine ⟨owns_same h.1 (fun b hb => ?_), fun r hr' => owns_same (h.2 r hr') (fun b hb => ?_)⟩
  · rcases h.1.2 with ⟨e, _⟩ | ⟨g, cap, cur, e, _, h4, _⟩
    · rw [e] at hb; cases hb
    · rw [e] at hb
      injection hb with hb
      subst hb
      exact cells_own h4 hg hr
  · rcases (show W.ownsRow B0 38 2 _ _ _ from h.2 r hr').2 with ⟨e, _⟩ | ⟨g, cap, cur, e, _, h4, _⟩
    · rw [e] at hb; cases hb
    · rw [e] at hb
      injection hb with hb
      subst hb
      exact cells_own h4 hg hr
theorem GE.below {B0 : Nat} {W W' : World} {x : El} (h : GE x B0 W) (hb : Below W.heap.size W W') : GE x B0 W' := ⟨h.1.below hb, fun r hr => (h.2 r hr).below hb⟩
theorem keeps_box {C b : Nat} {W : World} {t : TypeId} {v : Value} (h : Bx W b t v) (u : Value) : KeepsFrom C W (W.setCell ⟨b, 0, none⟩ u) := by
  refine ⟨by simp, fun k o _ hk ho => ?_⟩
  by_cases e : k = b
  · subst e
    rw [h] at hk
    injection hk with hk
    subst hk
    cases ho
  · exact (Below.heap_setCell _ _ _ _ e).trans hk
theorem keeps_below {C : Nat} {W W' : World} (h : Below W.heap.size W W') : KeepsFrom C W W' := ⟨h.size, fun k o _ hk _ => (h.block k (Array.getElem?_eq_some_iff.1 hk).1).trans hk⟩
/-- What stands all along. -/
def Bs (sb bw bq : Nat) (wa : Option Addr) (wc n : Nat) (sa : Option Addr) (sc : Nat) (L Ks : List PX) (B E kb g : Nat) (st : Int) (wM : World) : Prop :=
  (Bx wM sb 3 (.int .i64 st) ∧ Bx wM bw 24 (.slice wa (n + 1) wc) ∧ Bx wM bq 28 (.func (.func 11) #[] #[.pointer (some ⟨kb, 0, none⟩)])) ∧ GRow 1 yV wM wa (upl sa sc L (n + 1)) ∧ DRow wM sa L ∧ L.length = n ∧ n ≤ sc ∧ KeptE B E kb g n Ks wM ∧ E ≤ wM.heap.size ∧ sd Ks = sd L ∧ n ≤ 5864062014634 ∧ (∀ r ∈ L, r.2.2.length ≤ 4398046510976) ∧ (∀ r ∈ Ks, r.2.2.length ≤ 4398046510976)
theorem sd_at {D : List (List PR)} {pre : List El} {x : El} (h : sds (pre ++ [x]) <+: ups D) : pre.length < D.length + 1 ∧ sd x.2 = D.drop pre.length := by
  obtain ⟨t, ht⟩ := h
  have hl : pre.length < D.length + 1 := by
    have := congrArg List.length ht
    rw [List.length_append, ups_len] at this
    simp [sds] at this
    omega
  refine ⟨hl, ?_⟩
  have h1 : (ups D)[pre.length]? = some (sd x.2) := by
    rw [← ht, List.getElem?_append_left (by simp [sds])]
    simp [sds]
  rw [List.getElem?_eq_getElem (by rw [ups_len]; exact hl), ups_at D _ hl] at h1
  injection h1 with h1
  exact h1.symm
/-- The cell of the name that is wanted, and that the two are the same. -/
theorem Bs.at {sb bw bq : Nat} {wa : Option Addr} {wc n : Nat} {sa : Option Addr} {sc : Nat} {L Ks : List PX} {B E kb g : Nat} {st : Int} {wM U : World} (h : Bs sb bw bq wa wc n sa sc L Ks B E kb g st wM) (hU : Below wM.heap.size wM U) (p : Nat) (hp : p < n + 1) :
    ∃ wb wo, wa = some ⟨wb, wo, none⟩ ∧ U.cell? ⟨wb, wo + p, none⟩ = some (.slice (cutA sa p sc) (n - p) (sc - p)) ∧ ∀ (x : El) (B0 : Nat) (W : World), Below wM.heap.size wM W → GE x B0 W → sd x.2 = (sd L).drop p → Calls Try.prog 9 #[.slice (some ⟨x.1, 0, none⟩) x.2.length x.2.length, .slice (cutA sa p sc) (n - p) (sc - p)] W fun e w' => e = .returned (.bool true) ∧ ∃ q, w' = W.drewN q := by
  obtain ⟨_, h1, h2, h3, h4, _, _, _, h8, h9, _⟩ := h
  obtain ⟨wb, wo, e, hc⟩ := h1 p (by rw [upl_len]; exact hp)
  have hc0 := hc 0 (by omega)
  have hup : (upl sa sc L (n + 1))[p]'(by rw [upl_len]; exact hp) = upx sa sc L p := by simp [upl]
  rw [hup] at hc0
  have e2 : (L.drop p).length = n - p := by rw [List.length_drop, h3]
  simp only [yV, upx, e2, Nat.mul_one] at hc0
  have hc1 : wM.cell? ⟨wb, wo + p, none⟩ = some (.slice (cutA sa p sc) (n - p) (sc - p)) := hc0
  refine ⟨wb, wo, e, ?_, fun x B0 W hW hG hs => ?_⟩
  · rw [hU.cell (World.block_lt_of_cell? _ _ hc1)]; exact hc1
  · have hxl : x.2.length = n - p := by
      have := congrArg List.length hs
      rw [sd_len, List.length_drop, sd_len, h3] at this
      exact this
    have hsd : sd x.2 = sd (L.drop p) := by rw [sd_drop]; exact hs
    have hzx : ∀ r ∈ x.2, r.2.2.length ≤ 4398046510976 := fun r hr => by
      have : r.2.2 ∈ sd (L.drop p) := by rw [← hsd]; exact List.mem_map_of_mem hr
      obtain ⟨r', hr', e'⟩ := List.mem_map.1 this
      rw [← e']
      exact h9 r' (List.mem_of_mem_drop hr')
    rw [hxl]
    exact sameDN_any _ _ _ _ x.2 (L.drop p) (n - p) W hxl e2 (by omega) hG.drow ((h2.below hW).cut (by omega)) hsd hzx
/-- What the inner ranging keeps. -/
def RiI (V : World) (pre : List El) (W : World) : Prop := Bx W V.heap.size 3 (.int .i64 (pre.length : Int)) ∧ Below V.heap.size V W
theorem riI_own {V : World} {B : Nat} (hB : V.heap.size ≤ B) : OwnFrom B (RiI V) := fun s W W' row h hg hr => ⟨h.1.own hg hr, below_own h.2 hg hr hB (Nat.le_refl _)⟩
theorem rngK_put {B E : Nat} {w : World} (hE : E ≤ w.heap.size) (W : World) (l : Nat) (o o' : Obj) (hl : w.heap.size ≤ l) (h : W.heap[l]? = some o) (hc : o.isCells = false) (hw : o.isWalk = false) : RngK B E W (W.putObj l o') :=
  ⟨by simp [World.putObj], fun k _ hk => World.putObj_heap_other (by omega)⟩
/-- The n-th ranging over a function in a code. -/
def rngs : Code → List Code
  | .rangeFunc g ps a b => .rangeFunc g ps a b :: rngs b
  | .seq a b => rngs a ++ rngs b
  | .cond _ a b => rngs a ++ rngs b
  | .block _ a => rngs a
  | .loop a => rngs a
  | .scope a => rngs a
  | _ => []

set_option maxHeartbeats 4000000 in
theorem inner_range (wM V : World) (sb bw bq : Nat) (wa : Option Addr) (wc n : Nat) (sa : Option Addr) (sc : Nat) (L Ks : List PX) (B E kb g : Nat) (st : Int) (l : Nat) (r₀ : Loop) (D : List Deferred) (Q : Exit → Act → World → Prop)
    {v0 v1 v2 v3 v4 v6 v7 v8 v9 v10 v12 v13 v14 v15 v16 v17 v18 v19 v20 v21 v22 v23 v24 v25 v26 v27 v28 v29 v30 v31 v32 v33 v34 v35 v36 v37 v38 v39 v40 v41 v42 v43 v44 v45 v46 v47 v48 v49 v50 v51 v52 v53 v54 v55 v56 v57 v58 v59 v60 v61 v62 v63 v64 v65 v66 v67 v68 v69 v70 v71 v72 v73 v74 v75 v76 v77 v78 v79 v80 v81 v83 v84 v85 v86 v87 v88 v89 v90 v91 v92 v93 v94 v95 v96 v97 v98 v99 v100 v101 v102 v103 v104 v105 v106 v107 v108 v109 v110 v111 v112 v113 v114 v115 v116 : Value}
    (hBs : Bs sb bw bq wa wc n sa sc L Ks B E kb g st wM) (hV : Below wM.heap.size wM V) (hl : V.heap[l]? = some (.loop r₀))
    (hn : ∀ W', Below V.heap.size V W' → Bx W' V.heap.size 3 (.int .i64 ((n : Int) + 1)) → Q .normal { tmps := (List.toArray (v0 :: v1 :: v2 :: v3 :: v4 :: (.pointer (some ⟨bw, 0, none⟩)) :: v6 :: v7 :: v8 :: v9 :: v10 :: (.pointer (some ⟨V.heap.size, 0, none⟩)) :: v12 :: v13 :: v14 :: v15 :: v16 :: v17 :: v18 :: v19 :: v20 :: v21 :: v22 :: v23 :: v24 :: v25 :: v26 :: v27 :: v28 :: v29 :: v30 :: v31 :: v32 :: v33 :: v34 :: v35 :: v36 :: v37 :: v38 :: v39 :: v40 :: v41 :: v42 :: v43 :: v44 :: v45 :: v46 :: v47 :: v48 :: v49 :: v50 :: v51 :: v52 :: v53 :: v54 :: v55 :: v56 :: v57 :: v58 :: v59 :: v60 :: v61 :: v62 :: v63 :: v64 :: v65 :: v66 :: v67 :: v68 :: v69 :: v70 :: v71 :: v72 :: v73 :: v74 :: v75 :: v76 :: v77 :: v78 :: v79 :: v80 :: v81 :: (.func (.func 11) #[] #[.pointer (some ⟨kb, 0, none⟩)]) :: v83 :: v84 :: v85 :: v86 :: v87 :: v88 :: v89 :: v90 :: v91 :: v92 :: v93 :: v94 :: v95 :: v96 :: v97 :: v98 :: v99 :: v100 :: v101 :: v102 :: v103 :: v104 :: v105 :: v106 :: v107 :: v108 :: v109 :: v110 :: v111 :: v112 :: v113 :: v114 :: v115 :: v116 :: [])), defers := D } W')
    (c : Code) (hc : (Try.f3.body.bind fun b => (rngs b)[2]?) = some c) :
    c.wpIn (Fence.wide.inRound l) 6 Try.prog Q { tmps := (List.toArray (v0 :: v1 :: v2 :: v3 :: v4 :: (.pointer (some ⟨bw, 0, none⟩)) :: v6 :: v7 :: v8 :: v9 :: v10 :: (.pointer (some ⟨V.heap.size, 0, none⟩)) :: v12 :: v13 :: v14 :: v15 :: v16 :: v17 :: v18 :: v19 :: v20 :: v21 :: v22 :: v23 :: v24 :: v25 :: v26 :: v27 :: v28 :: v29 :: v30 :: v31 :: v32 :: v33 :: v34 :: v35 :: v36 :: v37 :: v38 :: v39 :: v40 :: v41 :: v42 :: v43 :: v44 :: v45 :: v46 :: v47 :: v48 :: v49 :: v50 :: v51 :: v52 :: v53 :: v54 :: v55 :: v56 :: v57 :: v58 :: v59 :: v60 :: v61 :: v62 :: v63 :: v64 :: v65 :: v66 :: v67 :: v68 :: v69 :: v70 :: v71 :: v72 :: v73 :: v74 :: v75 :: v76 :: v77 :: v78 :: v79 :: v80 :: v81 :: (.func (.func 11) #[] #[.pointer (some ⟨kb, 0, none⟩)]) :: v83 :: v84 :: v85 :: v86 :: v87 :: v88 :: v89 :: v90 :: v91 :: v92 :: v93 :: v94 :: v95 :: v96 :: v97 :: v98 :: v99 :: v100 :: v101 :: v102 :: v103 :: v104 :: v105 :: v106 :: v107 :: v108 :: v109 :: v110 :: v111 :: v112 :: v113 :: v114 :: v115 :: v116 :: [])), defers := D } (V.alloc (.cells #[.int .i64 0] 3)) := by
  have hMV : wM.heap.size ≤ V.heap.size := hV.size
  have hb0 : Below V.heap.size V (V.alloc (.cells #[.int .i64 0] 3)) := (Below.refl _ _).alloc (Nat.le_refl _) _
  have hsz : (V.alloc (.cells #[.int .i64 0] 3)).heap.size = V.heap.size + 1 := by simp
  have hI0 : RiI V [] (V.alloc (.cells #[.int .i64 0] 3)) := ⟨Bx.new V _ _, hb0⟩
  have hl0 : (V.alloc (.cells #[.int .i64 0] 3)).heap[l]? = some (.loop r₀) := (hb0.block l (Array.getElem?_eq_some_iff.1 hl).1).trans hl
  obtain ⟨W0, hW0⟩ : ∃ W0, V.alloc (.cells #[.int .i64 0] 3) = W0 := ⟨_, rfl⟩
  rw [hW0] at hb0 hsz hI0 hl0 ⊢
  have hc2 : some _ = some c := hc
  injection hc2 with hc3
  rw [← hc3]
  clear hc hc3 hW0 hl
  have hE : E ≤ wM.heap.size := hBs.2.2.2.2.2.2.1
  have hKE : KeptE B E kb g n Ks W0 := hBs.2.2.2.2.2.1.move ((RngK.of_below hV hE).trans (RngK.of_below hb0 (by omega)))
  have hsdK : sd Ks = sd L := hBs.2.2.2.2.2.2.2.1
  have hLn : (sd L).length = n := by rw [sd_len]; exact hBs.2.2.2.1
  have hn1 : n ≤ 5864062014634 := hBs.2.2.2.2.2.2.2.2.1
  have hseq := (up_stops 5 (by omega) B E kb g n Ks W0 hKE (by omega) hBs.2.2.2.2.2.2.2.2.2.2 hn1).inRound l
  rw [hsdK] at hseq
  refine range_gn (l₀ := l) (r₀ := r₀) rfl hl0 (by omega) (gf := 11) (lb := #[.pointer (some ⟨kb, 0, none⟩)]) rfl trivial (enters_of Try.func11 (by kernel_rfl) rfl)
    hseq RngK.trans (rngK_put (by omega)) (Below.refl _ _) (fun _ => rfl)
    (RiI V) (fun _ _ _ => False) (riI_own (by omega)) (fun _ _ _ _ _ h _ _ => h) hI0
    (fun pre x B0 a' W => a' = { tmps := (List.toArray (v0 :: v1 :: v2 :: v3 :: v4 :: (.pointer (some ⟨bw, 0, none⟩)) :: v6 :: v7 :: v8 :: v9 :: v10 :: (.pointer (some ⟨V.heap.size, 0, none⟩)) :: (.slice (some ⟨x.1, 0, none⟩) x.2.length x.2.length) :: v13 :: v14 :: v15 :: v16 :: v17 :: v18 :: v19 :: v20 :: v21 :: v22 :: v23 :: v24 :: v25 :: v26 :: v27 :: v28 :: v29 :: v30 :: v31 :: v32 :: v33 :: v34 :: v35 :: v36 :: v37 :: v38 :: v39 :: v40 :: v41 :: v42 :: v43 :: v44 :: v45 :: v46 :: v47 :: v48 :: v49 :: v50 :: v51 :: v52 :: v53 :: v54 :: v55 :: v56 :: v57 :: v58 :: v59 :: v60 :: v61 :: v62 :: v63 :: v64 :: v65 :: v66 :: v67 :: v68 :: v69 :: v70 :: v71 :: v72 :: v73 :: v74 :: v75 :: v76 :: v77 :: v78 :: v79 :: v80 :: v81 :: (.func (.func 11) #[] #[.pointer (some ⟨kb, 0, none⟩)]) :: (.slice (some ⟨x.1, 0, none⟩) x.2.length x.2.length) :: v84 :: v85 :: v86 :: v87 :: v88 :: v89 :: v90 :: v91 :: v92 :: v93 :: v94 :: v95 :: v96 :: v97 :: v98 :: v99 :: v100 :: v101 :: v102 :: v103 :: v104 :: v105 :: v106 :: v107 :: v108 :: v109 :: v110 :: v111 :: v112 :: v113 :: v114 :: v115 :: v116 :: [])), defers := [] } ∧ GE x B0 W ∧ RiI V pre W ∧ sd x.2 = (sd L).drop pre.length)
    ?hAx ?assign ?body ?done ?stop
  case hAx =>
    rintro pre x B0 a' _ W W' row ⟨h1, h2, h3, h4⟩ hg hr
    exact ⟨h1, h2.own hg hr, riI_own (by omega) _ _ _ _ h3 hg hr, h4⟩
  case stop =>
    rintro c pre W _ h
    exact h.elim
  case done =>
    rintro xs W hxs ⟨h1, h2⟩
    have hl : xs.length = n + 1 := by
      have := congrArg List.length hxs
      rw [ups_len, hLn] at this
      simpa [sds] using this
    rw [hl] at h1
    exact hn W h2 (by simpa using h1)
  case assign =>
    rintro l' pre x Wa W K hIa hbW hIw hG hSp hlen hwl hK
    have hat := (sd_at hSp).2
    have hK' : Hid (∀ a' W', KeepsFrom W0.heap.size W W' → RngK B E W W' → (a' = { tmps := (List.toArray (v0 :: v1 :: v2 :: v3 :: v4 :: (.pointer (some ⟨bw, 0, none⟩)) :: v6 :: v7 :: v8 :: v9 :: v10 :: (.pointer (some ⟨V.heap.size, 0, none⟩)) :: (.slice (some ⟨x.1, 0, none⟩) x.2.length x.2.length) :: v13 :: v14 :: v15 :: v16 :: v17 :: v18 :: v19 :: v20 :: v21 :: v22 :: v23 :: v24 :: v25 :: v26 :: v27 :: v28 :: v29 :: v30 :: v31 :: v32 :: v33 :: v34 :: v35 :: v36 :: v37 :: v38 :: v39 :: v40 :: v41 :: v42 :: v43 :: v44 :: v45 :: v46 :: v47 :: v48 :: v49 :: v50 :: v51 :: v52 :: v53 :: v54 :: v55 :: v56 :: v57 :: v58 :: v59 :: v60 :: v61 :: v62 :: v63 :: v64 :: v65 :: v66 :: v67 :: v68 :: v69 :: v70 :: v71 :: v72 :: v73 :: v74 :: v75 :: v76 :: v77 :: v78 :: v79 :: v80 :: v81 :: (.func (.func 11) #[] #[.pointer (some ⟨kb, 0, none⟩)]) :: (.slice (some ⟨x.1, 0, none⟩) x.2.length x.2.length) :: v84 :: v85 :: v86 :: v87 :: v88 :: v89 :: v90 :: v91 :: v92 :: v93 :: v94 :: v95 :: v96 :: v97 :: v98 :: v99 :: v100 :: v101 :: v102 :: v103 :: v104 :: v105 :: v106 :: v107 :: v108 :: v109 :: v110 :: v111 :: v112 :: v113 :: v114 :: v115 :: v116 :: [])), defers := [] } ∧ GE x Wa.heap.size W' ∧ RiI V pre W' ∧ sd x.2 = (sd L).drop pre.length) → K a' W') := hK
    have hfin : Hid (GE x Wa.heap.size W ∧ RiI V pre W ∧ sd x.2 = (sd L).drop pre.length) := ⟨hG, hIw, hat⟩
    clear hK hbW hIa hIw hG hSp hlen hwl hat hn hI0 hBs hV hb0 hl0 hKE hseq
    dsimp only [encE]
    gi_wp2
    exact hK'.out _ _ (KeepsFrom.refl _ _) (RngK.refl _ _ _) ⟨rfl, hfin.out⟩
  case body =>
    rintro l' pre x B0 a' U hl' hlr ⟨rfl, hG, ⟨hk, hbU⟩, hat⟩ hlen
    obtain ⟨p, hp⟩ : ∃ p, pre.length = p := ⟨_, rfl⟩
    rw [hp] at hat hlen hk
    have hUM : Below wM.heap.size wM U := hV.trans (hbU.mono hMV)
    obtain ⟨wb, wo, rfl, hcell, hsame⟩ := hBs.at hUM p hlen
    have hS : Hid (Calls Try.prog 9 #[.slice (some ⟨x.1, 0, none⟩) x.2.length x.2.length, .slice (cutA sa p sc) (n - p) (sc - p)] U fun e w' => e = .returned (.bool true) ∧ ∃ q, w' = U.drewN q) := hsame x B0 U hUM hG hat
    have cm := hk.cell
    have cw : U.cell? ⟨bw, 0, none⟩ = some (.slice (some ⟨wb, wo, none⟩) (n + 1) wc) := (hBs.1.2.1.below hUM hBs.1.2.1.lt).cell
    have p0 : (0 : Int) ≤ (p : Int) := Int.natCast_nonneg _
    have p1 : (p : Int) < ((n + 1 : Nat) : Int) := by omega
    have nb : (n : Int) ≤ 5864062014634 := by omega
    have hmain : Hid (Below V.heap.size V U ∧ Bx U V.heap.size 3 (.int .i64 (p : Int)) ∧ pre.length = p ∧ E ≤ V.heap.size) := ⟨hbU, hk, hp, by omega⟩
    have hdr : Hid (∀ q, (U.drewN q).cell? ⟨V.heap.size, 0, none⟩ = some (.int .i64 (p : Int)) ∧ (U.drewN q).frozen? ⟨V.heap.size, 0, none⟩ = false) := fun q => ⟨hk.cell, hk.frozen⟩
    generalize cutA sa p sc = ca at *
    obtain ⟨xn, hxn⟩ : ∃ xn, x.2.length = xn := ⟨_, rfl⟩
    obtain ⟨xg, hxg⟩ : ∃ xg, x.1 = xg := ⟨_, rfl⟩
    rw [hxn, hxg] at hS ⊢
    clear hxn hxg hG hk hbU hat hUM hn hI0 hBs hV hb0 hl0 hKE hseq hl' hlr hp hsame hlen
    try dsimp only
    gi_wp2_with (refine ⟨trivial, ?_⟩; gi_at_call 9; refine (CallsIn.inRound l' (callsIn_wide.2 hS.out)).mono ?_; rintro e W2 ⟨rfl, q, rfl⟩; have hd := hdr.out q; obtain ⟨hd1, hd2⟩ := hd)
    obtain ⟨g1, g2, g3, g4⟩ := hmain.out
    have gb1 : Bx (U.drewN q) V.heap.size 3 (.int .i64 (p : Int)) := g2
    have bq : Below U.heap.size U (U.drewN q) := drewN_below _ _ _
    refine ⟨(keeps_below bq).trans (keeps_box gb1 _), (RngK.of_below bq (by have := g1.size; omega)).trans ⟨by simp, fun k _ hk => Below.heap_setCell _ _ _ _ (show k ≠ V.heap.size by omega)⟩, ?_, ?_⟩
    · rw [List.length_append, g3]
      have := gb1.set (.int .i64 ((p : Int) + 1))
      simpa using this
    · exact (g1.trans (bq.mono g1.size)).setCell (p := ⟨V.heap.size, 0, none⟩) (Nat.le_refl _) _
end Du
end Go.Proofs.Ytkpepbcoeoalkaa
