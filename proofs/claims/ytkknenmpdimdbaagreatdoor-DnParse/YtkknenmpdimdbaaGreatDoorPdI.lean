import Derived.Test.YtkknenmpdimdbaaGreatDoorFZ43
import Derived.Test.YtkknenmpdimdbaaGreatDoorFZ27
import Derived.Deep.OwnRows
namespace Go.Proofs.YtkknenmpdimdbaaGreatDoor
namespace Pa
open Go.RowKit Go.Lib
open TextMath (fold lo normal check wo unhex)
open Ke (tyOk tyC utf PR)
open Du (GOwn GRow Kd append_gen KDp KDx pV pV_len xV xV_len owns_same owns_apart owns_base PX PRow DRow sd sd_len)
set_option linter.unusedVariables false
set_option linter.unusedSimpArgs false
set_option maxRecDepth 100000

/-- What a part's reading goes on with. -/
def PT (m k : Nat) (D0 : List (List PR)) (ps : List PR) (l : List UInt8) (R : DRs) : Prop :=
  ∃ P : PRs, prt hxO m D0.length ps l = some P ∧ ((∃ e, P = .error e ∧ R = .error e) ∨ (∃ x : List PR × List UInt8, P = .ok x ∧ ((x.2.head? = some 44 ∧ nmP hxO k (D0 ++ [x.1]) (x.2.drop 1) = some R) ∨ (x.2.head? ≠ some 44 ∧ R = .ok (D0 ++ [x.1])))))
theorem pt_start {k : Nat} {D : List (List PR)} {l : List UInt8} {R : DRs} (h : nmP hxO k D l = some R) : ∃ k', PT 9 k' D [] l R := by
  cases k with
  | zero => cases h
  | succ k => exact ⟨k, nm_inv h⟩
theorem pt_step {m k : Nat} {D0 : List (List PR)} {ps : List PR} {l : List UInt8} {R : DRs} (h : PT m k D0 ps l R) :
    ((D0.length = 64 ∨ ps.length = 8) ∧ R = .error (58, (sp l).length)) ∨
    (¬ (D0.length = 64 ∨ ps.length = 8) ∧ ((∃ e, prR ps (sp l) = .error e ∧ R = .error e) ∨
      (∃ x r, prR ps (sp l) = .ok (x, r) ∧ ((r.head? = some 43 ∧ ∃ m', PT m' k D0 (ps ++ [x]) (r.drop 1) R) ∨ (r.head? = some 44 ∧ nmP hxO k (D0 ++ [ps ++ [x]]) (r.drop 1) = some R) ∨ (r.head? ≠ some 43 ∧ r.head? ≠ some 44 ∧ R = .ok (D0 ++ [ps ++ [x]])))))) := by
  obtain ⟨P, hP, hc⟩ := h
  cases m with
  | zero => cases hP
  | succ m =>
    rcases prt_inv hP with ⟨hw, rfl⟩ | ⟨hw, ⟨e, h1, rfl⟩ | ⟨x, h1, ⟨e, h2, rfl⟩ | ⟨y, h2, ⟨h3, h4⟩ | ⟨h3, rfl⟩⟩⟩⟩
    · refine Or.inl ⟨hw, ?_⟩
      rcases hc with ⟨e, h1, h2⟩ | ⟨x, h1, _⟩
      · injection h1 with h1; rw [h2, ← h1]
      · cases h1
    · refine Or.inr ⟨hw, Or.inl ⟨e, ?_, ?_⟩⟩
      · rw [prR_pv, h1]
      · rcases hc with ⟨e, h1, h2⟩ | ⟨x, h1, _⟩
        · injection h1 with h1; rw [h2, ← h1]
        · cases h1
    · refine Or.inr ⟨hw, Or.inl ⟨e, ?_, ?_⟩⟩
      · rw [prR_pv, h1]
        dsimp only
        rw [h2]
      · rcases hc with ⟨e, h1, h2⟩ | ⟨x, h1, _⟩
        · injection h1 with h1; rw [h2, ← h1]
        · cases h1
    · refine Or.inr ⟨hw, Or.inr ⟨(x.1, y.1), y.2, ?_, Or.inl ⟨h3, m, P, h4, hc⟩⟩⟩
      rw [prR_pv, h1]
      dsimp only
      rw [h2]
    · refine Or.inr ⟨hw, Or.inr ⟨(x.1, y.1), y.2, ?_, Or.inr ?_⟩⟩
      · rw [prR_pv, h1]
        dsimp only
        rw [h2]
      · rcases hc with ⟨e, h1, _⟩ | ⟨z, h1, hz⟩
        · cases h1
        · injection h1 with h1
          subst h1
          rcases hz with ⟨q1, q2⟩ | ⟨q1, q2⟩
          · exact Or.inl ⟨q1, q2⟩
          · exact Or.inr ⟨h3, q1, q2⟩
abbrev xw (r : PX) : Value := .slice r.1 r.2.2.length r.2.1
theorem flat_xw (l : List PX) : l.flatMap xV = l.map xw := by
  induction l with
  | nil => rfl
  | cons x l ih => rw [List.flatMap_cons, ih, List.map_cons]; rfl
theorem row_set {W : World} {B g cap : Nat} {l : List PX} (h : GOwn 57 1 xV W B (.slice (some ⟨g, 0, none⟩) l.length cap) l) (i : Nat) (hi : i < l.length) (x : PX) : GOwn 57 1 xV (W.setCell ⟨g, i, none⟩ (xw x)) B (.slice (some ⟨g, 0, none⟩) l.length cap) (l.set i x) := by
  unfold GOwn at h ⊢
  rw [flat_xw] at h ⊢
  rcases h.2 with ⟨e, _⟩ | ⟨g', cap', cur, e, h3, hb, h5, h6, h7, h8⟩
  · cases e
  · cases e
    rw [List.length_set]
    refine ⟨by simp, Or.inr ⟨g, cap, _, rfl, h3, Go.heap_setCell_same _ _ _ _ _ _ hb, h5, h6, by simpa using h7, ?_⟩⟩
    rw [Nat.mul_one] at h8 ⊢
    rw [List.map_set, ← h8]
    simp [List.take_set]
theorem row_cell {W : World} {B g cap : Nat} {l : List PX} (h : GOwn 57 1 xV W B (.slice (some ⟨g, 0, none⟩) l.length cap) l) (i : Nat) (hi : i < l.length) : W.cell? ⟨g, i, none⟩ = some (xw l[i]) ∧ W.frozen? ⟨g, i, none⟩ = false := by
  obtain ⟨a, c, e, _, _, hr⟩ := h.row xV_len
  injection e with e1 _ e2
  subst e1 e2
  obtain ⟨b, off, e, h1⟩ := hr i hi
  injection e with e
  injection e with e1 e2
  subst e1 e2
  have := h1 0 (by omega)
  rw [Nat.mul_one, Nat.zero_add] at this
  refine ⟨this, ?_⟩
  rcases h.2 with ⟨e, _⟩ | ⟨g', cap', cur, e, h3, hb, h5, h6, h7, h8⟩
  · cases e
  · cases e
    exact Go.frozen_of_row _ _ _ _ _ hb
/-- A part of the call's own. -/
abbrev PO (B : Nat) (r : PX) (W : World) : Prop := GOwn 64 2 pV W B (xw r) r.2.2
theorem PO.set {B C : Nat} {r : PX} {W : World} {g cap : Nat} {l : List PX} (h : PO B r W) (ho : GOwn 57 1 xV W C (.slice (some ⟨g, 0, none⟩) l.length cap) l) (j : Nat) (u : Value) : PO B r (W.setCell ⟨g, j, none⟩ u) := by
  refine owns_same (show W.ownsRow B 64 2 _ _ _ from h) (fun g' hg' => Below.heap_setCell _ _ _ _ (fun e => ?_))
  subst e
  exact owns_apart (show W.ownsRow B 64 2 _ _ _ from h) (show W.ownsRow C 57 1 _ _ _ from ho) (by decide) hg' rfl
/-- How the parts stand: all of them, and with the last one in hand. -/
def DL (B : Nat) (W : World) (v : Value) (L : List PX) : Prop := GOwn 57 1 xV W B v L ∧ ∀ r ∈ L, PO B r W
def DI (B C : Nat) (W : World) (v : Value) (L0 : List PX) (x : PX) : Prop :=
  GOwn 57 1 xV W B v (L0 ++ [x]) ∧ (∀ r ∈ L0, PO B r W ∧ ∀ g, (xw r).ownBlock = some g → g < C) ∧ PO C x W ∧ B ≤ C ∧ C ≤ W.heap.size
theorem DI.all {B C : Nat} {W : World} {v : Value} {L0 : List PX} {x : PX} (h : DI B C W v L0 x) : DL B W v (L0 ++ [x]) := by
  refine ⟨h.1, fun r hr => ?_⟩
  rcases List.mem_append.1 hr with hr | hr
  · exact (h.2.1 r hr).1
  · rw [List.mem_singleton] at hr
    subst hr
    exact owns_base (show W.ownsRow C 64 2 _ _ _ from h.2.2.1) h.2.2.2.1
theorem DL.below {B : Nat} {W W' : World} {v : Value} {L : List PX} (h : DL B W v L) (hb : Below W.heap.size W W') : DL B W' v L := ⟨h.1.below hb, fun r hr => GOwn.below (h.2 r hr) hb⟩
theorem DI.below {B C : Nat} {W W' : World} {v : Value} {L0 : List PX} {x : PX} (h : DI B C W v L0 x) (hb : Below W.heap.size W W') : DI B C W' v L0 x := ⟨h.1.below hb, fun r hr => ⟨GOwn.below (h.2.1 r hr).1 hb, (h.2.1 r hr).2⟩, GOwn.below h.2.2.1 hb, h.2.2.2.1, Nat.le_trans h.2.2.2.2 hb.size⟩
theorem DL.drow {B : Nat} {W : World} {v : Value} {L : List PX} (h : DL B W v L) : ∃ va c, v = .slice va L.length c ∧ DRow W va L := by
  obtain ⟨va, c, e, _, _, hr⟩ := h.1.row xV_len
  refine ⟨va, c, e, hr, fun r hr => ?_⟩
  obtain ⟨a2, c2, f, g1, g2, g3⟩ := (h.2 r hr).row pV_len
  injection f with f1 _ f3
  rw [← f1] at g3
  rw [← f3] at g1 g2
  exact ⟨g3, g1, g2⟩
theorem DI.form {B C : Nat} {W : World} {v : Value} {L0 : List PX} {x : PX} (h : DI B C W v L0 x) : ∃ g c, v = .slice (some ⟨g, 0, none⟩) (L0.length + 1) c ∧ B ≤ g := by
  rcases Du.owns_form (show W.ownsRow _ _ _ _ _ _ from h.1) with ⟨_, h2⟩ | ⟨g, cap, e, _, _, h3, _⟩
  · simp at h2
  · exact ⟨g, cap, by rw [e, List.length_append]; rfl, h3⟩
/-- A part begun: a fresh empty one laid and put behind. -/
theorem DL.begin {B : Nat} {W W1 : World} {v : Value} {L : List PX} (h : DL B W v L) (hB : B ≤ W.heap.size) (hb : Below W.heap.size W W1) (x : PX) (hx : PO W.heap.size x W1) (hl : L.length ≤ 64) :
    ∃ va n c w', (Builtin.append_ #[23, 23] 23 #[v, .slice (some ⟨W1.heap.size, 0, none⟩) 1 1]).run Tryz.prog (W1.alloc (.cells #[xw x] 57)) = .ok (.slice va n c) w' ∧ DI B W.heap.size w' (.slice va n c) L x ∧ n = L.length + 1 ∧ Below B W w' := by
  have hB1 : B ≤ W1.heap.size := Nat.le_trans hB hb.size
  have ba : Below W1.heap.size W1 (W1.alloc (.cells #[xw x] 57)) := (Below.refl _ _).alloc (Nat.le_refl _) _
  have h1 : GOwn 57 1 xV W1 B v L := h.1.below hb
  obtain ⟨v1, w1, e1, o1, g1, b1⟩ := append_gen KDx (W1.alloc (.cells #[xw x] 57)) B v L [x] (some ⟨W1.heap.size, 0, none⟩) 1 1 (h1.below ba) (GRow.one xV W1 57 x) rfl (Nat.le_trans hB1 ba.size) (by simp; omega)
  obtain ⟨va, c, rfl, _⟩ := o1.row xV_len
  have keep : ∀ {b : Nat} {u : Value} {l : List PR}, GOwn 64 2 pV W1 b u l → GOwn 64 2 pV w1 b u l := fun {b u l} hu => by
    have hua := hu.below ba
    exact owns_same (show World.ownsRow _ _ _ _ _ _ _ from hua) (fun g hg => g1.block g (World.ownsRow.lt (show World.ownsRow _ _ _ _ _ _ _ from hua) g hg).2 (fun e => owns_apart (show World.ownsRow _ _ 64 _ _ _ _ from hua) (show World.ownsRow _ _ 57 _ _ _ _ from h1.below ba) (by decide) hg e.symm))
  have bw1 : Below B W1 w1 := (ba.mono hB1).trans b1
  have hbw : Below B W w1 := (hb.mono hB).trans bw1
  refine ⟨va, _, c, w1, e1, ⟨o1, fun r hr => ⟨keep (GOwn.below (h.2 r hr) hb), fun g hg => (World.ownsRow.lt (show W.ownsRow _ _ _ _ _ _ from h.2 r hr) g hg).2⟩, keep hx, hB, Nat.le_trans hb.size bw1.size⟩, by simp, hbw⟩
/-- A pair more in the last part. -/
theorem DI.push {B C : Nat} {W : World} {g cap n : Nat} {L0 : List PX} {x : PX} (h : DI B C W (.slice (some ⟨g, 0, none⟩) n cap) L0 x) (t v : List UInt8) (hl : x.2.2.length ≤ 8) :
    ∃ va m c w', (Builtin.append_ #[57, 57] 57 #[xw x, .slice (some ⟨W.heap.size, 0, none⟩) 1 1]).run Tryz.prog (W.alloc (.cells #[.string (S t), .string (S v)] 64)) = .ok (.slice va m c) w' ∧
      (w'.cell? ⟨g, L0.length, none⟩ = some (xw x) ∧ w'.frozen? ⟨g, L0.length, none⟩ = false) ∧ n = L0.length + 1 ∧ Below B W (w'.setCell ⟨g, L0.length, none⟩ (.slice va m c)) ∧
      DI B C (w'.setCell ⟨g, L0.length, none⟩ (.slice va m c)) (.slice (some ⟨g, 0, none⟩) n cap) L0 (va, c, x.2.2 ++ [(t, v)]) := by
  obtain ⟨h1, h2, h3, h4, h5⟩ := h
  have hn : n = (L0 ++ [x]).length := by
    obtain ⟨a, c, e, _⟩ := h1.row xV_len
    injection e
  have hgB : B ≤ g := (World.ownsRow.lt (show W.ownsRow _ _ _ _ _ _ from h1) g rfl).1
  have ba : Below W.heap.size W (W.alloc (.cells #[.string (S t), .string (S v)] 64)) := (Below.refl _ _).alloc (Nat.le_refl _) _
  obtain ⟨v1, w1, e1, o1, g1, b1⟩ := append_gen KDp (W.alloc (.cells #[.string (S t), .string (S v)] 64)) C (xw x) x.2.2 [(t, v)] (some ⟨W.heap.size, 0, none⟩) 1 1 (GOwn.below h3 ba) (GRow.one pV W 64 (t, v)) rfl (Nat.le_trans h5 ba.size) (by simp; omega)
  obtain ⟨va, c, rfl, _⟩ := o1.row pV_len
  have bw : Below C W w1 := (ba.mono h5).trans b1
  have od : GOwn 57 1 xV w1 B (.slice (some ⟨g, 0, none⟩) n cap) (L0 ++ [x]) := by
    have hua := h1.below ba
    exact owns_same (show World.ownsRow _ _ _ _ _ _ _ from hua) (fun g' hg' => g1.block g' (World.ownsRow.lt (show World.ownsRow _ _ _ _ _ _ _ from hua) g' hg').2 (fun e => owns_apart (show World.ownsRow _ _ 64 _ _ _ _ from GOwn.below h3 ba) (show World.ownsRow _ _ 57 _ _ _ _ from hua) (by decide) e.symm hg'))
  subst hn
  have hi : L0.length < (L0 ++ [x]).length := by simp
  obtain ⟨c1, c2⟩ := row_cell od L0.length hi
  have ex : (L0 ++ [x])[L0.length]'hi = x := by simp
  rw [ex] at c1
  have os := row_set od L0.length hi (va, c, x.2.2 ++ [(t, v)])
  have es : (L0 ++ [x]).set L0.length (va, c, x.2.2 ++ [(t, v)]) = L0 ++ [(va, c, x.2.2 ++ [(t, v)])] := by simp
  rw [es] at os
  have bB : Below B W w1 := bw.mono h4
  refine ⟨va, _, c, w1, e1, ⟨c1, c2⟩, by simp, bB.setCell (p := ⟨g, L0.length, none⟩) hgB _, os, fun r hr => ⟨PO.set ?_ od _ _, (h2 r hr).2⟩, PO.set (r := (va, c, x.2.2 ++ [(t, v)])) o1 od _ _, h4, ?_⟩
  · exact owns_same (show World.ownsRow _ _ _ _ _ _ _ from (h2 r hr).1) (fun g' hg' => bw.block g' ((h2 r hr).2 g' hg'))
  · rw [World.size_setCell]
    exact Nat.le_trans h5 bw.size
/-- How Parse stands ahead of a piece. -/
def ST (s : ByteArray) (R : DRs) (B : Nat) (W : World) (v : Value) (L : List PX) (f : Nat) (b : Bool) : Prop :=
  DL B W v L ∧ (b = false → ∃ k, nmP hxO k (sd L) (lf s f) = some R) ∧
  (b = true → ∃ L0 x C m k, L = L0 ++ [x] ∧ DI B C W v L0 x ∧ L0.length < 64 ∧ x.2.2.length ≤ 8 ∧ PT m k (sd L0) x.2.2 (lf s f) R) ∧
  (∀ r ∈ L, r.2.2.length ≤ 8 ∧ ∀ q ∈ r.2.2, q.1.length ≤ 4096 ∧ q.2.length ≤ 4096) ∧ L.length ≤ 64
theorem ST.below {s : ByteArray} {R : DRs} {B : Nat} {W W' : World} {v : Value} {L : List PX} {f : Nat} {b : Bool} (h : ST s R B W v L f b) (hb : Below W.heap.size W W') : ST s R B W' v L f b :=
  ⟨h.1.below hb, h.2.1, fun e => by obtain ⟨L0, x, C, m, k, h1, h2, h3⟩ := h.2.2.1 e; exact ⟨L0, x, C, m, k, h1, h2.below hb, h3⟩, h.2.2.2⟩
/-- How Parse stands between two pieces. -/
def NX (s : ByteArray) (R : DRs) (B : Nat) (L : List Pc) (i : Nat) (W : World) (v : Value) (Ls : List PX) : Prop :=
  (∃ f m b, L.drop i = pcs m s f b ∧ s.size - f + 1 ≤ m ∧ f ≤ s.size ∧ ST s R B W v Ls f b) ∨
  (i = L.length ∧ R = .ok (sd Ls) ∧ DL B W v Ls ∧ (∀ r ∈ Ls, r.2.2.length ≤ 8 ∧ ∀ q ∈ r.2.2, q.1.length ≤ 4096 ∧ q.2.length ≤ 4096) ∧ Ls.length ≤ 64)
theorem pc_at {s : ByteArray} {L : List Pc} {i m f : Nat} {b : Bool} (h : L.drop i = pcs m s f b) (hm : s.size - f + 1 ≤ m) (hf : f ≤ s.size) :
    ∃ hi : i < L.length, L[i] = (f, f + endp (lf s f), b) ∧ Al s f (f + endp (lf s f)) ∧ ((∃ ht : f + endp (lf s f) < s.size, ∃ m', L.drop (i + 1) = pcs m' s (f + endp (lf s f) + 1) (s[f + endp (lf s f)] == 43) ∧ s.size - (f + endp (lf s f) + 1) + 1 ≤ m') ∨ (f + endp (lf s f) = s.size ∧ i + 1 = L.length)) := by
  obtain ⟨m', rfl⟩ : ∃ m', m = m' + 1 := ⟨m - 1, by omega⟩
  have hal : Al s f (f + endp (lf s f)) := ⟨hf, rfl⟩
  have hle := hal.le
  rw [pcs_step] at h
  have hi : i < L.length := by
    rcases Nat.lt_or_ge i L.length with q | q
    · exact q
    · rw [List.drop_eq_nil_of_le q] at h
      split at h <;> cases h
  rw [List.drop_eq_getElem_cons hi] at h
  refine ⟨hi, ?_⟩
  by_cases ht : f + endp (lf s f) < s.size
  · rw [dif_pos ht] at h
    injection h with h1 h2
    exact ⟨h1, hal, Or.inl ⟨ht, m', h2, by omega⟩⟩
  · rw [dif_neg ht] at h
    injection h with h1 h2
    have := congrArg List.length h2
    rw [List.length_drop, List.length_nil] at this
    exact ⟨h1, hal, Or.inr ⟨by omega, by omega⟩⟩
theorem sd_app (L0 : List PX) (x : PX) : sd (L0 ++ [x]) = sd L0 ++ [x.2.2] := by simp [sd]
theorem lf_hd {s : ByteArray} {t : Nat} (ht : t < s.size) : (lf s t).head? = some s[t] := by rw [lf_cons ht]; rfl
theorem nx_step {s : ByteArray} {R : DRs} {B C : Nat} {L : List Pc} {i f m k : Nat} {b : Bool} {W : World} {v : Value} {L0 : List PX} {xa : Option Addr} {xc : Nat} {ps : List PR} {q : PR} {r : List UInt8}
    (hd : L.drop i = pcs m s f b) (hm : s.size - f + 1 ≤ m) (hf : f ≤ s.size) (hD : DI B C W v L0 (xa, xc, ps ++ [q])) (h64 : L0.length < 64) (h8 : ps.length < 8)
    (hz : ∀ r ∈ L0, r.2.2.length ≤ 8 ∧ ∀ q ∈ r.2.2, q.1.length ≤ 4096 ∧ q.2.length ≤ 4096) (hp : ∀ q ∈ ps, q.1.length ≤ 4096 ∧ q.2.length ≤ 4096) (hq : q.1.length ≤ 4096 ∧ q.2.length ≤ 4096)
    (hr : r = lf s (f + endp (lf s f)))
    (hc : (r.head? = some 43 ∧ ∃ m', PT m' k (sd L0) (ps ++ [q]) (r.drop 1) R) ∨ (r.head? = some 44 ∧ nmP hxO k (sd L0 ++ [ps ++ [q]]) (r.drop 1) = some R) ∨ (r.head? ≠ some 43 ∧ r.head? ≠ some 44 ∧ R = .ok (sd L0 ++ [ps ++ [q]]))) :
    NX s R B L (i + 1) W v (L0 ++ [((xa, xc, ps ++ [q]) : PX)]) := by
  obtain ⟨hi, _, hal, hn⟩ := pc_at hd hm hf
  have hsz : ∀ r ∈ L0 ++ [((xa, xc, ps ++ [q]) : PX)], r.2.2.length ≤ 8 ∧ ∀ q ∈ r.2.2, q.1.length ≤ 4096 ∧ q.2.length ≤ 4096 := fun r hr => by
    rcases List.mem_append.1 hr with hr | hr
    · exact hz r hr
    · rw [List.mem_singleton] at hr
      subst hr
      refine ⟨by simp; omega, fun y hy => ?_⟩
      rcases List.mem_append.1 hy with hy | hy
      · exact hp y hy
      · rw [List.mem_singleton] at hy
        subst hy
        exact hq
  have hlen : (L0 ++ [((xa, xc, ps ++ [q]) : PX)]).length ≤ 64 := by simp; omega
  have hen := hal.en
  generalize f + endp (lf s f) = t at *
  rcases hn with ⟨ht, m', h1, h2⟩ | ⟨ht, h1⟩
  · have hh : r.head? = some s[t] := by rw [hr, lf_hd ht]
    have hdr : r.drop 1 = lf s (t + 1) := by rw [hr, lf_drop]
    rw [hdr] at hc
    rcases hc with ⟨g1, m2, g2⟩ | ⟨g1, g2⟩ | ⟨g1, g2, _⟩
    · rw [hh] at g1
      injection g1 with g1
      refine Or.inl ⟨t + 1, m', true, ?_, h2, ht, hD.all, fun e => (by cases e), fun _ => ⟨L0, _, C, m2, k, rfl, hD, h64, by simp; omega, g2⟩, hsz, hlen⟩
      rw [h1, g1]
      rfl
    · rw [hh] at g1
      injection g1 with g1
      refine Or.inl ⟨t + 1, m', false, ?_, h2, ht, hD.all, fun _ => ⟨k, by rw [sd_app]; exact g2⟩, fun e => (by cases e), hsz, hlen⟩
      rw [h1, g1]
      rfl
    · rcases hen with e | ⟨c, r', e, hcc⟩
      · rw [hr, e] at hh
        cases hh
      · rw [hr, e] at g1 g2
        rcases hcc with rfl | rfl
        · exact absurd rfl g2
        · exact absurd rfl g1
  · have hnil : r = [] := by rw [hr, lf_nil (by omega)]
    rw [hnil] at hc
    rcases hc with ⟨g1, _⟩ | ⟨g1, _⟩ | ⟨_, _, g3⟩
    · cases g1
    · cases g1
    · exact Or.inr ⟨h1, by rw [sd_app]; exact g3, hD.all, hsz, hlen⟩
/-- What Parse answers. -/
def PrQ5 (n : Nat) (w : World) (R : DRs) (e : Ending) (w' : World) : Prop :=
  Below w.heap.size w w' ∧ ((∃ D va c L, R = .ok D ∧ e = .returned (.tuple #[.slice va D.length c, .int .i64 0, .int .i64 0]) ∧ DRow w' va L ∧ sd L = D ∧ D.length ≤ 64 ∧ (∀ r ∈ D, r.length ≤ 8 ∧ ∀ q ∈ r, q.1.length ≤ 4096 ∧ q.2.length ≤ 4096)) ∨
    (∃ k m, R = .error (k, m) ∧ e = .returned (.tuple #[.slice none 0 0, .int .i64 (k : Int), .int .i64 ((n - m : Nat) : Int)])))
end Pa
end Go.Proofs.YtkknenmpdimdbaaGreatDoor
