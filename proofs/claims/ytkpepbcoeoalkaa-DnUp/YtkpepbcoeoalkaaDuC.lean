import Derived.Test.YtkpepbcoeoalkaaDuB
import Derived.Deep.OwnRows
namespace Go.Proofs.Ytkpepbcoeoalkaa
namespace Du
open Go.RowKit Go.Lib
set_option linter.unusedVariables false
set_option maxRecDepth 100000

theorem make_dn (n : Nat) (hn : n * 24 ≤ 140737488355328) (W : World) : (Instr.makeSlice 23 (.int .i64 (n : Int)) (.int .i64 (n : Int))).run Try.prog W = .ok (.slice (some ⟨W.heap.size, 0, none⟩) n n) (W.alloc (.cells (madeCells #[.slice none 0 0] n) 36)) :=
  run_make_row' (P := Try.prog) 23 36 (.slice none 0 0) 24 Try.underlying23 info_rdn rfl .i64 .i64 n (by omega) (by omega) W
def zX : PX := (none, 0, [])
def xv (r : PX) : Value := .slice r.1 r.2.2.length r.2.1
theorem flat_xV (l : List PX) : l.flatMap xV = l.map xv := by
  induction l with
  | nil => rfl
  | cons x l ih => rw [List.flatMap_cons, ih, List.map_cons]; rfl
theorem made_own (n : Nat) (hm : n ≤ maxLen) (W : World) : GOwn 36 1 xV (W.alloc (.cells (madeCells #[.slice none 0 0] n) 36)) W.heap.size (.slice (some ⟨W.heap.size, 0, none⟩) n n) (List.replicate n zX) := by
  unfold GOwn
  rw [List.length_replicate, flat_xV]
  refine ⟨by simp, Or.inr ⟨W.heap.size, n, _, rfl, Nat.le_refl _, heap_alloc_new W _, Nat.le_refl _, hm, by rw [size_madeCells]; omega, ?_⟩⟩
  rw [Nat.mul_one]
  apply List.ext_getElem
  · simp [size_madeCells]
  · intro i h1 h2
    simp [madeCells, zX, xv]
    rw [Nat.mod_one]
    rfl
theorem own_set {W : World} {B g cap : Nat} {l : List PX} (h : GOwn 36 1 xV W B (.slice (some ⟨g, 0, none⟩) l.length cap) l) (i : Nat) (hi : i < l.length) (x : PX) : GOwn 36 1 xV (W.setCell ⟨g, i, none⟩ (xv x)) B (.slice (some ⟨g, 0, none⟩) l.length cap) (l.set i x) := by
  unfold GOwn at h ⊢
  rw [flat_xV] at h ⊢
  rcases h.2 with ⟨e, _⟩ | ⟨g', cap', cur, e, h3, hb, h5, h6, h7, h8⟩
  · cases e
  · cases e
    rw [List.length_set]
    refine ⟨by simp, Or.inr ⟨g, cap, _, rfl, h3, Go.heap_setCell_same _ _ _ _ _ _ hb, h5, h6, by simpa using h7, ?_⟩⟩
    rw [Nat.mul_one] at h8 ⊢
    rw [List.map_set, ← h8]
    simp [List.take_set]
theorem own_cell {W : World} {B g cap : Nat} {l : List PX} (h : GOwn 36 1 xV W B (.slice (some ⟨g, 0, none⟩) l.length cap) l) (i : Nat) (hi : i < l.length) : W.cell? ⟨g, i, none⟩ = some (xv l[i]) ∧ W.frozen? ⟨g, i, none⟩ = false := by
  obtain ⟨a, c, e, _, _, hr⟩ := h.row xV_len
  injection e with e1 _ e2
  subst e1 e2
  obtain ⟨b, off, e, h1⟩ := hr i hi
  injection e with e
  injection e with e1 e2
  subst e1 e2
  have := h1 0 (by omega)
  rw [Nat.mul_one, Nat.zero_add] at this
  refine ⟨this, ?_⟩
  rcases h.2 with ⟨e, _⟩ | ⟨g', cap', cur, e, h3, hb, h5, h6, h7, h8⟩
  · cases e
  · cases e
    exact Go.frozen_of_row _ _ _ _ _ hb
/-- A part that is a copy. -/
def PC (B : Nat) (r : PX) (W : World) : Prop := GOwn 38 2 pV W B (.slice r.1 r.2.2.length r.2.1) r.2.2
theorem PC.below {B : Nat} {r : PX} {W W' : World} (h : PC B r W) (hb : Below W.heap.size W W') : PC B r W' := GOwn.below (show GOwn 38 2 pV W B _ _ from h) hb
theorem PC.row {B : Nat} {r : PX} {W : World} (h : PC B r W) : PRow W r.1 r.2.2 ∧ r.2.2.length ≤ r.2.1 ∧ r.2.1 ≤ maxLen := by
  obtain ⟨a, c, e, h1, h2, h3⟩ := (show GOwn 38 2 pV W B _ _ from h).row pV_len
  injection e with e1 _ e2
  subst e1 e2
  exact ⟨h3, h1, h2⟩
theorem PC.set {B C : Nat} {r : PX} {W : World} {g cap : Nat} {l : List PX} (h : PC B r W) (ho : GOwn 36 1 xV W C (.slice (some ⟨g, 0, none⟩) l.length cap) l) (j : Nat) (u : Value) : PC B r (W.setCell ⟨g, j, none⟩ u) := by
  refine owns_same (show W.ownsRow B 38 2 _ _ _ from h) (fun g' hg' => Below.heap_setCell _ _ _ _ (fun e => ?_))
  subst e
  exact owns_apart (show W.ownsRow B 38 2 _ _ _ from h) (show W.ownsRow C 36 1 _ _ _ from ho) (by decide) hg' rfl
/-- What the loop of copied has laid. -/
def CqI (w : World) (L : List PX) (n j : Nat) (Os : List PX) (W : World) : Prop :=
  GOwn 36 1 xV W w.heap.size (.slice (some ⟨w.heap.size, 0, none⟩) n n) Os ∧ Os.length = n ∧ L.length = n ∧ (∀ i (h : i < Os.length) (h' : i < L.length), i < j → Os[i].2.2 = L[i].2.2 ∧ PC w.heap.size Os[i] W) ∧ Below w.heap.size w W
def CqR (w : World) (L : List PX) (n : Nat) (pa : Option Addr) (pc m j : Nat) (W : World) : Prop :=
  ∃ va vc w1 u W2 Os',
    (Builtin.append_ #[36, 36] 36 #[.slice none 0 0, .slice pa m pc]).run Try.prog W = .ok (.slice va m vc) w1 ∧
    (w1.cell? ⟨w.heap.size, j, none⟩ = some u ∧ w1.frozen? ⟨w.heap.size, j, none⟩ = false) ∧
    w1.setCell ⟨w.heap.size, j, none⟩ (.slice va m vc) = W2 ∧ CqI w L n (j + 1) Os' W2
theorem cq_round {w W : World} {L Os : List PX} {sa : Option Addr} {n j : Nat} (hr : DRow w sa L) (hz : ∀ r ∈ L, r.2.2.length ≤ 4398046510976) (hQ : CqI w L n j Os W) (hj : j < L.length) :
    ∃ b off, sa = some ⟨b, off, none⟩ ∧ W.cell? ⟨b, off + j, none⟩ = some (.slice L[j].1 L[j].2.2.length L[j].2.1) ∧ CqR w L n L[j].1 L[j].2.1 L[j].2.2.length j W := by
  obtain ⟨i1, q1, q2, i3, i5⟩ := hQ
  have hRw := hr.below i5
  obtain ⟨b, off, rfl, c1⟩ := drow_at hRw j hj
  refine ⟨b, off, rfl, c1, ?_⟩
  have hpr := (hRw.2 _ (List.getElem_mem hj)).1
  have hml := hz _ (List.getElem_mem hj)
  generalize hLj : L[j] = r at *
  obtain ⟨pa, pc, ps⟩ := r
  dsimp only at c1 hpr hml
  obtain ⟨v1, w1, e1, o1, g1, b1⟩ := append_gen KDp W W.heap.size (.slice none 0 0) [] ps pa ps.length pc (GOwn.nil _ _ _ _ _) hpr rfl (Nat.le_refl _) (by simp; omega)
  rw [List.nil_append] at o1
  obtain ⟨va, vc, rfl, _, _, _⟩ := o1.row pV_len
  have o1' : GOwn 36 1 xV w1 w.heap.size (.slice (some ⟨w.heap.size, 0, none⟩) n n) Os := i1.below b1
  have o1n : GOwn 36 1 xV w1 w.heap.size (.slice (some ⟨w.heap.size, 0, none⟩) Os.length n) Os := by rw [q1]; exact o1'
  have hjO : j < Os.length := by omega
  obtain ⟨u1, u2⟩ := own_cell o1n j hjO
  have hs := own_set o1n j hjO (va, vc, ps)
  rw [q1] at hs
  refine ⟨va, vc, w1, _, _, Os.set j (va, vc, ps), e1, ⟨u1, u2⟩, rfl, hs, by rw [List.length_set]; exact q1, q2, fun i h h' hij => ?_, ?_⟩
  · rw [List.length_set] at h
    by_cases e : i = j
    · subst e
      rw [List.getElem_set_self, hLj]
      exact ⟨rfl, PC.set (r := (va, vc, ps)) (owns_base (show w1.ownsRow W.heap.size 38 2 _ _ _ from o1) i5.size) o1n _ _⟩
    · rw [List.getElem_set_ne (by omega)]
      have := i3 i h h' (by omega)
      exact ⟨this.1, (this.2.below b1).set o1n _ _⟩
  · exact (i5.trans (b1.mono i5.size)).setCell (p := ⟨w.heap.size, j, none⟩) (Nat.le_refl _) _
/-- What copied answers. -/
def CqQ (w : World) (L : List PX) (n : Nat) (Os : List PX) (w' : World) : Prop := Os.length = n ∧ sd Os = sd L ∧ GOwn 36 1 xV w' w.heap.size (.slice (some ⟨w.heap.size, 0, none⟩) n n) Os ∧ (∀ r ∈ Os, PC w.heap.size r w') ∧ Below w.heap.size w w'
theorem CqQ.drow {w : World} {L : List PX} {n : Nat} {Os : List PX} {w' : World} (h : CqQ w L n Os w') : DRow w' (some ⟨w.heap.size, 0, none⟩) Os := by
  obtain ⟨h1, h2, h3, h4, h5⟩ := h
  obtain ⟨a, c, e, _, _, hr⟩ := h3.row xV_len
  injection e with e1 _ e2
  subst e1
  exact ⟨hr, fun r hr => (h4 r hr).row⟩
set_option maxHeartbeats 2000000 in
theorem copied_any (sa : Option Addr) (sc : Nat) (L : List PX) (n : Nat) (w : World) (hn : L.length = n) (hr : DRow w sa L) (hz : ∀ r ∈ L, r.2.2.length ≤ 4398046510976) (hl : n ≤ 5864062014634) :
    Calls Try.prog 10 #[.slice sa n sc] w fun e w' => ∃ Os, e = .returned (.slice (some ⟨w.heap.size, 0, none⟩) n n) ∧ CqQ w L n Os w' := by
  have nb : (n : Int) ≤ 5864062014634 := by omega
  have hH : Hid (DRow w sa L ∧ (∀ r ∈ L, r.2.2.length ≤ 4398046510976)) := ⟨hr, hz⟩
  have hn' : Hid (L.length = n) := hn
  have hmk := make_dn n (by omega) w
  obtain ⟨W0, hW0⟩ : ∃ W0, w.alloc (.cells (madeCells #[.slice none 0 0] n) 36) = W0 := ⟨_, rfl⟩
  have hI0 : Hid (CqI w L n 0 (List.replicate n zX) W0) := by
    refine ⟨?_, List.length_replicate .., hn, fun i _ _ h => by omega, ?_⟩
    · rw [← hW0]; exact made_own n (by unfold maxLen; omega) w
    · rw [← hW0]; exact (Below.refl _ _).alloc (Nat.le_refl _) _
  rw [hW0] at hmk
  clear hr hz hn hl hW0
  go_enter Try.func10, Try.ntmps10
  go_wp2_with fail
  go_loopw [11] (fun iv wr => ∃ (j : Nat) (Os : List PX), iv = .int .i64 (j : Int) ∧ j ≤ n ∧ Hid (CqI w L n j Os wr)) (fun iv _ => n - (intOf iv).toNat)
  case atStart => exact ⟨0, _, rfl, Nat.zero_le _, hI0⟩
  case round =>
    obtain ⟨j, Os, rfl, hj, hQ⟩ := hrel
    clear hI0 hmk
    have j0 : (0 : Int) ≤ (j : Int) := Int.natCast_nonneg _
    by_cases hlt : j < n
    · have j1 : (j : Int) < (n : Int) := Int.ofNat_lt.2 hlt
      have hjL : j < L.length := by rw [hn'.out]; exact hlt
      obtain ⟨b, off, rfl, c1, va, vc, w1, u, W2, Os', e1, ⟨d1, d2⟩, hW2, s3⟩ := cq_round hH.out.1 hH.out.2 hQ.out hjL
      have hfin : Hid (CqI w L n (j + 1) Os' W2) := s3
      have hlt' : Hid (j < n) := hlt
      generalize hxx : L[j] = r at *
      obtain ⟨pa, pc, ps⟩ := r
      dsimp only at c1 e1 hW2
      generalize ps.length = m at *
      clear s3 hxx hjL hlt hj hQ
      go_wp2_with (at_builtin; refine Lib.wpList_append_run _ rfl _ _ _ _ rfl _ _ rfl rfl _ _ e1 ?_; clear e1)
      go_roundw
      case rel => exact ⟨j + 1, Os', by simp, hlt'.out, hfin⟩
      case measure => have := hlt'.out; simp [intOf]; omega
    · have e : n = j := by omega
      subst e
      have j1 : ¬ (n : Int) < (n : Int) := by omega
      have hfin : Hid (CqQ w L n Os wr) := by
        obtain ⟨i1, q1, q2, i3, i5⟩ := hQ.out
        refine ⟨q1, ?_, i1, fun r hr => ?_, i5⟩
        · unfold sd
          refine List.ext_getElem (by simp [q1, q2]) (fun i h1 h2 => ?_)
          rw [List.length_map] at h1 h2
          rw [List.getElem_map, List.getElem_map]
          exact (i3 i h1 h2 (by omega)).1
        · obtain ⟨i, hi, rfl⟩ := List.mem_iff_getElem.1 hr
          exact (i3 i hi (by omega) (by omega)).2
      clear hQ hlt hj
      go_wp2_with fail
      go_ret
      exact ⟨rfl, Os, hfin.out⟩
end Du
end Go.Proofs.Ytkpepbcoeoalkaa
