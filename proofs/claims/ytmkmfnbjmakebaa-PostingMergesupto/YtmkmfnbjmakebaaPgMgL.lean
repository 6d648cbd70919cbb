import Derived.Test.YtmkmfnbjmakebaaPgMst
import Derived.Test.YtmkmfnbjmakebaaPgCtC
namespace Go.Proofs.Ytmkmfnbjmakebaa
open Go.RowKit Go.Sort Go.Lib Go.Shelf
open PgMath (Inc setOf cnt)
open PgHpM (Hd)
open PgCnM (occ)
set_option linter.unusedVariables false
set_option maxRecDepth 100000

theorem ownI_blk {W W' : World} {B : Nat} {v : Value} {l : List Int} (h : OwnI W B v l) (hb : ∀ g, B ≤ g → g < W.heap.size → W'.heap[g]? = W.heap[g]?) : OwnI W' B v l := by
  rcases h with ⟨h1, ⟨rfl, h2⟩ | ⟨g, cap, cur, rfl, h3, h4, h5⟩⟩
  · exact ⟨h1, Or.inl ⟨rfl, h2⟩⟩
  · exact ⟨h1, Or.inr ⟨g, cap, cur, rfl, h3, by rw [hb g h3 (Array.getElem?_eq_some_iff.1 h4).1]; exact h4, h5⟩⟩
theorem ownL_blk {W W' : World} {B : Nat} {v : Value} {H : List Hd} (h : OwnL W B v H) (hb : ∀ g, B ≤ g → g < W.heap.size → W'.heap[g]? = W.heap[g]?) : OwnL W' B v H := by
  rcases h with ⟨h1, ⟨rfl, h2⟩ | ⟨g, cap, cur, rfl, h3, h4, h5⟩⟩
  · exact ⟨h1, Or.inl ⟨rfl, h2⟩⟩
  · exact ⟨h1, Or.inr ⟨g, cap, cur, rfl, h3, by rw [hb g h3 (Array.getElem?_eq_some_iff.1 h4).1]; exact h4, h5⟩⟩
/-- An entry of a list of lists of the call's own is put out for another. -/
theorem ownL_set {W : World} {B g cap : Nat} {H : List Hd} (h : OwnL W B (.slice (some ⟨g, 0, none⟩) H.length cap) H) (i : Nat) (hi : i < H.length) (x : Hd) : OwnL (W.setCell ⟨g, i, none⟩ (hv x)) B (.slice (some ⟨g, 0, none⟩) H.length cap) (H.set i x) := by
  have hl := h.1
  rcases h.2 with ⟨e, _⟩ | ⟨g', cap', cur, e, h3, h4, h5, h6, h7, h8⟩
  · cases e
  · injection e with e1 _ e2
    injection e1 with e1
    injection e1 with e1
    subst e1 e2
    refine ⟨by simp, Or.inr ⟨g, cap, cur.setIfInBounds i (hv x), by simp, h3, Go.heap_setCell_same _ _ _ _ _ _ h4, by simpa using h5, h6, by simpa using h7, ?_⟩⟩
    rw [Array.toList_setIfInBounds, List.length_set, Nat.mul_one, List.take_set]
    rw [Nat.mul_one] at h8
    rw [h8, List.map_set]
/-- A list whose cells may be written. -/
def ShI (lo hi : Nat) (W : World) (h : Hd) : Prop := ∃ g cs, h.1 = some ⟨g, 0, none⟩ ∧ W.heap[g]? = some (.cells cs 2 (0, 0)) ∧ h.2.2.length ≤ cs.size ∧ h.2.2.length ≤ h.2.1 ∧ lo ≤ g ∧ g < hi
theorem shI_set {lo hi : Nat} {W : World} {h : Hd} (hs : ShI lo hi W h) (b o : Nat) (v : Value) : ShI lo hi (W.setCell ⟨b, o, none⟩ v) h := by
  obtain ⟨g, cs, h1, h2, h3, h4, h5⟩ := hs
  by_cases e : g = b
  · subst e
    exact ⟨g, cs.setIfInBounds o v, h1, Go.heap_setCell_same _ _ _ _ _ _ h2, by simpa using h3, h4, h5⟩
  · exact ⟨g, cs, h1, by rw [Below.heap_setCell _ _ _ _ e]; exact h2, h3, h4, h5⟩
theorem spd_shI {W : World} {B : Nat} {h : Hd} (hs : Spd W B h) {hi : Nat} (hhi : W.heap.size ≤ hi) : ShI B hi W h := by
  obtain ⟨g, e, h1⟩ := hs
  rcases h1.2 with ⟨e1, _⟩ | ⟨g1, cap, cur, e1, h3, h4, h5, h6, h7, h8⟩
  · cases e1
  · injection e1 with e1 e2 e3
    injection e1 with e1
    injection e1 with e1
    subst e1 e3
    have hl := (Array.getElem?_eq_some_iff.1 h4).1
    exact ⟨g, cur, e, h4, by omega, by omega, h3, by omega⟩
def cut0 (h : Hd) : Hd := (h.1, h.2.1, [])
def cutN (i : Nat) (Os : List Hd) : List Hd := (Os.take i).map cut0 ++ Os.drop i
theorem cutN_len (i : Nat) (Os : List Hd) : (cutN i Os).length = Os.length := by
  unfold cutN
  rw [List.length_append, List.length_map, ← List.length_append, List.take_append_drop]
theorem cutN_at {i : Nat} {Os : List Hd} (h : i < Os.length) : (cutN i Os)[i]'(by rw [cutN_len]; exact h) = Os[i] := by
  unfold cutN
  rw [List.getElem_append_right (by simp; omega)]
  simp
  congr 1
  omega
theorem cutN_succ {i : Nat} {Os : List Hd} (h : i < Os.length) : cutN (i + 1) Os = (cutN i Os).set i (cut0 Os[i]) := by
  unfold cutN
  rw [List.take_succ_eq_append_getElem h, List.map_append, List.set_append_right _ _ (by simp; omega)]
  have e1 : i - ((Os.take i).map cut0).length = 0 := by simp; omega
  rw [e1, List.drop_eq_getElem_cons h, List.set_cons_zero, List.append_assoc]
  rfl
/-- All but the blocks from lo to hi stand. -/
def Oth (lo hi : Nat) (A W : World) : Prop := W.os = A.os ∧ W.tape = A.tape ∧ W.output = A.output ∧ W.heap.size = A.heap.size ∧ ∀ k, k < lo ∨ hi ≤ k → W.heap[k]? = A.heap[k]?
theorem Oth.refl (lo hi : Nat) (A : World) : Oth lo hi A A := ⟨rfl, rfl, rfl, rfl, fun _ _ => rfl⟩
theorem Oth.set {lo hi : Nat} {A W : World} (h : Oth lo hi A W) {b : Nat} (o : Nat) (v : Value) (h1 : lo ≤ b) (h2 : b < hi) : Oth lo hi A (W.setCell ⟨b, o, none⟩ v) :=
  ⟨h.1, h.2.1, h.2.2.1, by rw [← h.2.2.2.1]; simp [World.setCell], fun k hk => by rw [Below.heap_setCell _ _ _ _ (by show k ≠ b; omega)]; exact h.2.2.2.2 k hk⟩
/-- What stands while the lists are written over, i of them being done. -/
def WrI (lo hi : Nat) (oa : Option Addr) (oc : Nat) (Os : List Hd) (A : World) (i : Nat) (W : World) : Prop :=
  OwnL W lo (.slice oa Os.length oc) (cutN i Os) ∧ (∀ g, oa.map Addr.block = some g → g < hi) ∧ (∀ h ∈ Os, ShI lo hi W h) ∧ Oth lo hi A W
theorem WrI.at {lo hi : Nat} {oa : Option Addr} {oc : Nat} {Os : List Hd} {A : World} {i : Nat} {W : World} (h : WrI lo hi oa oc Os A i W) (hi' : i < Os.length) :
    ∃ og g cs, oa = some ⟨og, 0, none⟩ ∧ Os[i].1 = some ⟨g, 0, none⟩ ∧ W.cell? ⟨og, i, none⟩ = some (.slice (some ⟨g, 0, none⟩) Os[i].2.2.length Os[i].2.1) ∧ W.frozen? ⟨og, i, none⟩ = false ∧ W.heap[g]? = some (.cells cs 2 (0, 0)) ∧ Os[i].2.2.length ≤ cs.size ∧ Os[i].2.2.length ≤ Os[i].2.1 ∧ lo ≤ g ∧ g < hi ∧ og ≠ g := by
  obtain ⟨h1, h2, h3, h4⟩ := h
  obtain ⟨g, cs, e1, e2, e3, e4, e5, e6⟩ := h3 _ (List.getElem_mem hi')
  rcases h1.2 with ⟨e, en⟩ | ⟨og, cap', cur, e, q3, q4, q5, q6, q7, q8⟩
  · rw [cutN_len] at en; omega
  · injection e with e' e'' e'''
    subst e' e'''
    have h1' : OwnL W lo (.slice (some ⟨og, 0, none⟩) (cutN i Os).length oc) (cutN i Os) := by rw [cutN_len]; exact h1
    have hc := World.ownsRow.cellAt (show W.ownsRow lo 23 1 _ (cutN i Os).length ((cutN i Os).map hv) from h1') i (by rw [cutN_len]; omega)
    have hl : i < (cutN i Os).length := by rw [cutN_len]; exact hi'
    refine ⟨og, g, cs, rfl, e1, ?_, by simp [World.frozen?, q4], e2, e3, e4, e5, e6, fun ee => ?_⟩
    · rw [hc, List.getElem?_map, List.getElem?_eq_getElem hl, cutN_at hi']
      simp [hv, e1]
    · subst ee
      rw [q4] at e2
      injection e2 with e2
      injection e2 with _ e2
      exact absurd e2 (by decide)
/-- A number is written. -/
theorem WrI.put {lo hi : Nat} {oa : Option Addr} {oc : Nat} {Os : List Hd} {A : World} {i : Nat} {W : World} (h : WrI lo hi oa oc Os A i W) {g : Nat} {cs : Array Value} (hg : W.heap[g]? = some (.cells cs 2 (0, 0))) (h1 : lo ≤ g) (h2 : g < hi) (j : Nat) (v : Value) : WrI lo hi oa oc Os A i (W.setCell ⟨g, j, none⟩ v) := by
  obtain ⟨q1, q2, q3, q4⟩ := h
  refine ⟨?_, q2, fun x hx => shI_set (q3 x hx) _ _ _, q4.set j v h1 h2⟩
  rcases q1.2 with ⟨e, en⟩ | ⟨og, cap', cur, e, r3, r4, r5⟩
  · exact ⟨q1.1, Or.inl ⟨e, en⟩⟩
  · refine ⟨q1.1, Or.inr ⟨og, cap', cur, e, r3, ?_, r5⟩⟩
    rw [Below.heap_setCell _ _ _ _ (fun ee => ?_)]
    · exact r4
    · have ee' : og = g := ee
      subst ee'
      rw [r4] at hg
      injection hg with hg
      injection hg with _ hg
      exact absurd hg (by decide)
/-- One list is done. -/
theorem WrI.next {lo hi og : Nat} {oc : Nat} {Os : List Hd} {A : World} {i : Nat} {W : World} (h : WrI lo hi (some ⟨og, 0, none⟩) oc Os A i W) (hi' : i < Os.length) : WrI lo hi (some ⟨og, 0, none⟩) oc Os A (i + 1) (W.setCell ⟨og, i, none⟩ (.slice Os[i].1 0 Os[i].2.1)) := by
  obtain ⟨q1, q2, q3, q4⟩ := h
  have hog : lo ≤ og := (World.ownsRow.lt (show W.ownsRow lo 23 1 _ (cutN i Os).length ((cutN i Os).map hv) from q1) og rfl).1
  refine ⟨?_, q2, fun x hx => shI_set (q3 x hx) _ _ _, q4.set i _ hog (q2 og rfl)⟩
  rw [cutN_succ hi']
  have hl := cutN_len i Os
  rw [← hl] at q1 ⊢
  exact ownL_set q1 i (by rw [hl]; exact hi') (cut0 Os[i])
/-- What the ranging needs of the world: most, the result, want, seq. -/
def Bas (w W : World) (hi2 bw bs lo hi bx uc : Nat) (mst : Int) (ua : Option Addr) (U : List Int) (Qs : List Hd) : Prop :=
  Boxed W w.heap.size 3 (.int .i64 mst) ∧ Boxed W (w.heap.size + 1) 4 (.bool false) ∧ (Boxed W bw 23 (.slice ua U.length uc) ∧ hi2 ≤ bw) ∧ (NRow W ua U ∧ ∀ x, U ≠ [] → ua = some x → hi2 ≤ x.block) ∧
  (Boxed W bs 32 (.func (.func 29) #[] #[.pointer (some ⟨bx, 0, none⟩)]) ∧ hi2 ≤ bs) ∧ (Mrg W lo hi bx Qs ∧ hi2 ≤ lo) ∧ Below w.heap.size w W ∧ w.heap.size + 2 ≤ hi2
theorem Bas.keep {w W W' : World} {hi2 bw bs lo hi bx uc : Nat} {mst : Int} {ua : Option Addr} {U : List Int} {Qs : List Hd} (h : Bas w W hi2 bw bs lo hi bx uc mst ua U Qs) (ho : W'.os = W.os ∧ W'.tape = W.tape ∧ W'.output = W.output) (hs : W.heap.size ≤ W'.heap.size)
    (hb : ∀ k, k < W.heap.size → (k < w.heap.size + 2 ∨ hi2 ≤ k) → W'.heap[k]? = W.heap[k]?) : Bas w W' hi2 bw bs lo hi bx uc mst ua U Qs := by
  obtain ⟨h1, h2, ⟨h3, h3b⟩, ⟨h4, h4b⟩, ⟨h5, h5b⟩, ⟨h6, h6b⟩, h7, h8⟩ := h
  refine ⟨(hb _ h1.lt (by omega)).trans h1, (hb _ h2.lt (by omega)).trans h2, ⟨(hb _ h3.lt (by omega)).trans h3, h3b⟩, ⟨fun i hi => ?_, h4b⟩, ⟨(hb _ h5.lt (by omega)).trans h5, h5b⟩, ⟨h6.keep hs (fun k q1 q2 => hb k (by have := h6.2.2.2.1; omega) (by omega)), h6b⟩, ?_, h8⟩
  · obtain ⟨b, off, e, q⟩ := h4 i hi
    have hbb := h4b ⟨b, off, none⟩ (fun e' => by rw [e'] at hi; simp at hi) e
    refine ⟨b, off, e, ?_⟩
    rw [World.cell?_of_block (w := W) (hb b (World.block_lt_of_cell? W _ q) (Or.inr hbb))]
    exact q
  · exact ⟨ho.1.trans h7.os, ho.2.1.trans h7.tape, ho.2.2.trans h7.output, Nat.le_trans h7.size hs, fun k hk => (hb k (by have := h7.size; omega) (by omega)).trans (h7.block k hk)⟩
theorem Bas.below {w W W' : World} {hi2 bw bs lo hi bx uc : Nat} {mst : Int} {ua : Option Addr} {U : List Int} {Qs : List Hd} (h : Bas w W hi2 bw bs lo hi bx uc mst ua U Qs) (hb : Below W.heap.size W W') : Bas w W' hi2 bw bs lo hi bx uc mst ua U Qs :=
  h.keep ⟨hb.os, hb.tape, hb.output⟩ hb.size (fun k hk _ => hb.block k hk)

open PgSeq (Mv Still)
/-- Between two rounds of a ranging: how many have come. -/
def RgI (A : World) (m : Int) (U : List Int) (pre : List Int) (W : World) : Prop := Boxed W A.heap.size 3 (.int .i64 (pre.length : Int)) ∧ pre <+: U ∧ Below A.heap.size A W ∧ (pre.length : Int) < m
/-- Where one leaves it. -/
def RgX (A : World) (m : Int) (U : List Int) (x : Nat) (c : Code) (pre : List Int) (W : World) : Prop := (c = .ret ∧ ¬ pre <+: U) ∨ (c = .exit x ∧ Boxed W A.heap.size 3 (.int .i64 m) ∧ Below A.heap.size A W)
theorem boxed_mvM {B : Nat} {W W' : World} {b : Nat} {t : TypeId} {v : Value} (h : Boxed W b t v) (hm : Mv TM B W W') (ht : TM t = false) : Boxed W' b t v := by
  rcases hm.2.2.2.2 b _ h with e | ⟨_, e | ⟨cs, t', fz, e, e'⟩⟩
  · exact e
  · cases e
  · injection e with _ e
    subst e
    rw [ht] at e'
    cases e'
theorem below_mvM {B C : Nat} {w W W' : World} (h : Below C w W) (hw : C ≤ w.heap.size) (hC : C ≤ B) (hm : Mv TM B W W') : Below C w W' := by
  refine ⟨hm.1.trans h.os, hm.2.1.trans h.tape, hm.2.2.1.trans h.output, Nat.le_trans h.size hm.2.2.2.1, fun k hk => ?_⟩
  have h1 := h.block k hk
  have h2 : k < W.heap.size := by have := h.size; omega
  rw [← h1, Array.getElem?_eq_getElem h2]
  exact PgSeq.stands hm (Array.getElem?_eq_getElem h2) (by omega)
theorem rgI_still (A : World) (m : Int) (U : List Int) (B : Nat) (hB : A.heap.size ≤ B) : Still TM B (RgI A m U) := fun s W W' h hm => ⟨boxed_mvM h.1 hm (by decide), h.2.1, below_mvM h.2.2.1 (Nat.le_refl _) hB hm, h.2.2.2⟩
theorem rgX_still (A : World) (m : Int) (U : List Int) (x : Nat) (B : Nat) (hB : A.heap.size ≤ B) (c : Code) : Still TM B (RgX A m U x c) := fun s W W' h hm => by
  rcases h with h | ⟨h1, h2, h3⟩
  · exact Or.inl h
  · exact Or.inr ⟨h1, boxed_mvM h2 hm (by decide), below_mvM h3 (Nat.le_refl _) hB hm⟩
theorem pre_step {U pre : List Int} (h : pre <+: U) (hl : pre.length < U.length) (x : Int) : (pre ++ [x]) <+: U ↔ x = U[pre.length] := by
  obtain ⟨r, rfl⟩ := h
  cases r with
  | nil => simp at hl
  | cons y r =>
    have e : (pre ++ y :: r)[pre.length]'hl = y := by simp
    rw [e]
    constructor
    · rintro ⟨s, hs⟩
      rw [List.append_assoc] at hs
      have := List.append_cancel_left hs
      simp at this
      exact this.1
    · rintro rfl
      exact ⟨r, by simp⟩
theorem pre_long {U pre : List Int} (hl : U.length ≤ pre.length) (x : Int) : ¬ (pre ++ [x]) <+: U := fun h => by have := h.length_le; simp at this; omega
theorem isU_of {Ss Qs : List Hd} (h : lsts Qs = (lsts Ss).map setOf) : IsU (lsts (some1 Qs)) (aL (lsts Ss) 1) := by
  have h1 := aL_is (lsts Ss) 1
  refine ⟨h1.1, fun x => ?_⟩
  rw [h1.2, occ_some1, h, occ_set]
  constructor
  · exact fun q => q.2
  · exact fun q => ⟨by omega, q⟩
theorem store_fn (w : World) (v : Value) (hv : v.oneCell' = true) : (store ⟨w.heap.size, 0, none⟩ v).run Try.prog (w.alloc (.cells #[.nilFunc] 32)) = .ok () (w.alloc (.cells #[v] 32)) := by
  have hb : Boxed (w.alloc (.cells #[.nilFunc] 32)) w.heap.size 32 .nilFunc := Boxed.new w _ _
  have hc := hb.cell
  have hf := hb.frozen
  rw [run_store Try.prog _ _ _ _ hv, hc]
  simp only [hf, Bool.false_eq_true, if_false]
  congr 1
  simp only [World.setCell, World.alloc]
  congr 1
  apply Array.ext_getElem?
  intro i
  rw [Array.getElem?_modify]
  by_cases h : w.heap.size = i
  · subst h
    simp
  · have h' : ¬ i = w.heap.size := fun e => h e.symm
    simp [h, h', Array.getElem?_push]
theorem fn_nil (bx : Nat) (W : World) : (binOp BinOp.eql 32 (.func (.func 29) #[] #[.pointer (some ⟨bx, 0, none⟩)]) .nilFunc).run Try.prog W = .ok (.bool false) W := by kernel_rfl
end Go.Proofs.Ytmkmfnbjmakebaa
