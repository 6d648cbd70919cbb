import Derived.Test.YtkpepbcoeoalkaaDuL
namespace Go.Proofs.Ytkpepbcoeoalkaa
namespace Du
open Go.RowKit Go.Shelf
set_option linter.unusedVariables false
set_option maxRecDepth 1000000

/-- What stands behind Up: the worlds one after another. -/
def Ch (w Wa w1 wb w2 w3 w4 : World) (sa : Option Addr) (sc : Nat) (L : List PX) (n : Nat) (st : Int) (oa : Option Addr) (oc : Nat) (a : Option Addr) (c : Nat) (Os : List PX) (kb : Nat) (Ks : List PX) : Prop :=
  (DRow w sa L ∧ L.length = n ∧ n ≤ sc ∧ n ≤ 5864062014634 ∧ (∀ r ∈ L, r.2.2.length ≤ 4398046510976)) ∧
  (Below w.heap.size w Wa ∧ Wa.heap.size = w.heap.size + 2 ∧ Bx Wa w.heap.size 3 (.int .i64 st) ∧ Bx Wa (w.heap.size + 1) 4 (.bool false)) ∧
  (GOwn 23 1 yV w1 Wa.heap.size (.slice oa (n + 1) oc) (upl sa sc L (n + 1)) ∧ Below Wa.heap.size Wa w1) ∧
  w1.alloc (.cells #[.slice oa (n + 1) oc] 24) = wb ∧ CpQ wb L n a c Os w2 ∧
  (Kept w2.heap.size kb w2.heap.size n Ks w3 ∧ sd Ks = sd Os ∧ Below w2.heap.size w2 w3) ∧
  w3.alloc (.cells #[.func (.func 11) #[] #[.pointer (some ⟨kb, 0, none⟩)]] 28) = w4
theorem Ch.os {w Wa w1 wb w2 w3 w4 : World} {sa : Option Addr} {sc : Nat} {L : List PX} {n : Nat} {st : Int} {oa : Option Addr} {oc : Nat} {a : Option Addr} {c : Nat} {Os : List PX} {kb : Nat} {Ks : List PX} (h : Ch w Wa w1 wb w2 w3 w4 sa sc L n st oa oc a c Os kb Ks) : (∀ r ∈ Os, r.2.2.length ≤ 4398046510976) ∧ sd Os = sd L := by
  obtain ⟨⟨_, h2, _, _, h5⟩, _, _, _, hQ, _⟩ := h
  refine ⟨fun r hr => ?_, hQ.sd h2⟩
  obtain ⟨i, hi, rfl⟩ := List.mem_iff_getElem.1 hr
  have hiL : i < L.length := by have := hQ.1; omega
  rw [hQ.2.2.2.2.1 i hi hiL]
  exact h5 _ (List.getElem_mem hiL)
theorem Ch.mark {w Wa w1 wb w2 w3 w4 : World} {sa : Option Addr} {sc : Nat} {L : List PX} {n : Nat} {st : Int} {oa : Option Addr} {oc : Nat} {a : Option Addr} {c : Nat} {Os : List PX} {kb : Nat} {Ks : List PX} (h : Ch w Wa w1 wb w2 w3 w4 sa sc L n st oa oc a c Os kb Ks) (q : Nat) :
    Calls Try.prog 8 #[.slice a n c, .string { data := #[108, 97, 116, 101] }] (w4.drewN q) fun e w' => (∃ v, e = .returned v) ∧ Md wb.heap.size w2.heap.size (w4.drewN q) w' := by
  have hz := h.os.1
  obtain ⟨⟨_, _, _, h4, _⟩, _, _, _, hQ, ⟨_, _, hb3⟩, hw4⟩ := h
  have b34 : Below w3.heap.size w3 w4 := by rw [← hw4]; exact (Below.refl _ _).alloc (Nat.le_refl _) _
  have b5 : Below w2.heap.size w2 (w4.drewN q) := (hb3.trans (b34.mono hb3.size)).trans (drewN_below _ _ _)
  have hQ5 := hQ.below b5
  obtain ⟨q1, q2, q3, ⟨g, zg, rfl, q4, q4'⟩, q5, q6, q7, q8⟩ := hQ
  obtain ⟨p1, p2, p3, ⟨g', zg', e', p4, p4'⟩, p5, p6, p7, p8⟩ := hQ5
  injection e' with e'
  injection e' with e'
  subst e'
  refine markDN_any wb.heap.size w2.heap.size g n c Os (w4.drewN q) ⟨Md.refl _ _ _, ⟨_, by rw [List.length_append, p1]; rfl, p4, ?_⟩, fun i hi _ => PSh.of (p6 _ (List.getElem_mem hi))⟩ p1 b5.size ?_ (fun r hr g2 hg2 => ?_) p8 hz h4
  · rw [List.take_append_of_le_length (by omega), List.take_of_length_le (by omega)]
  · exact (World.ownsRow.lt (show w2.ownsRow wb.heap.size 36 1 _ _ _ from q4) g rfl).2
  · obtain ⟨g3, e3, ho⟩ := q6 r hr
    rw [hg2] at e3
    injection e3 with e3
    injection e3 with e3
    subst e3
    exact (World.ownsRow.lt (show w2.ownsRow wb.heap.size 38 2 _ _ _ from ho) g2 rfl).2
theorem Ch.bs {w Wa w1 wb w2 w3 w4 w6 : World} {sa : Option Addr} {sc : Nat} {L : List PX} {n : Nat} {st : Int} {oa : Option Addr} {oc : Nat} {a : Option Addr} {c : Nat} {Os : List PX} {kb : Nat} {Ks : List PX} (h : Ch w Wa w1 wb w2 w3 w4 sa sc L n st oa oc a c Os kb Ks) (q : Nat) (h6 : Md wb.heap.size w2.heap.size (w4.drewN q) w6) :
    Bs w.heap.size w1.heap.size w3.heap.size oa oc n sa sc L Ks w2.heap.size w3.heap.size kb w2.heap.size st w6 ∧ Bx w6 (w.heap.size + 1) 4 (.bool false) ∧ Below w.heap.size w w6 ∧ w.heap.size + 2 ≤ w6.heap.size := by
  have hos := h.os
  obtain ⟨⟨r1, r2, r3, r4, r5⟩, ⟨s1, s2, s3, s4⟩, ⟨t1, t2⟩, hwb, hQ, ⟨k1, k2, k3⟩, hw4⟩ := h
  have b1b : Below w1.heap.size w1 wb := by rw [← hwb]; exact (Below.refl _ _).alloc (Nat.le_refl _) _
  have zb : wb.heap.size = w1.heap.size + 1 := by rw [← hwb]; simp
  have b2 : Below wb.heap.size wb w2 := hQ.2.2.2.2.2.2.1
  have b34 : Below w3.heap.size w3 w4 := by rw [← hw4]; exact (Below.refl _ _).alloc (Nat.le_refl _) _
  have z4 : w4.heap.size = w3.heap.size + 1 := by rw [← hw4]; simp
  have b45 : Below w4.heap.size w4 (w4.drewN q) := drewN_below _ _ _
  have z1 := t2.size
  have z2 := b2.size
  have z3 := k3.size
  have z5 : (w4.drewN q).heap.size = w4.heap.size := rfl
  have z6 := h6.2.1
  -- the blocks below S1 stay from wb on
  have lo : ∀ k, k < wb.heap.size → w6.heap[k]? = wb.heap[k]? := fun k hk => by
    rw [h6.2.2 k (by omega) (Or.inl hk), b45.block k (by omega), b34.block k (by omega), k3.block k (by omega), b2.block k hk]
  have hi : ∀ k, w2.heap.size ≤ k → k < w4.heap.size → w6.heap[k]? = w4.heap[k]? := fun k hk hk' => by
    rw [h6.2.2 k (by omega) (Or.inr hk), b45.block k (by omega)]
  have hbel : Below Wa.heap.size Wa w6 := by
    have e1 : Below Wa.heap.size Wa wb := t2.trans (b1b.mono z1)
    have e5 : Below wb.heap.size wb (w4.drewN q) := ((b2.trans (k3.mono z2)).trans (b34.mono (by omega))).trans (b45.mono (by omega))
    refine ⟨h6.1.1.trans (e5.os.trans e1.os), h6.1.2.1.trans (e5.tape.trans e1.tape), h6.1.2.2.trans (e5.output.trans e1.output), by omega, fun k hk => ?_⟩
    rw [lo k (by omega)]
    exact e1.block k hk
  have hbelw : Below w.heap.size w w6 := s1.trans (hbel.mono s1.size)
  refine ⟨⟨⟨s3.below hbel s3.lt, ?_, ?_⟩, ?_, r1.below hbelw, r2, r3, ?_, by omega, by rw [k2]; exact hos.2, r4, r5, fun r hr => ?_⟩, s4.below hbel s4.lt, hbelw, by omega⟩
  · have : Bx wb w1.heap.size 24 (.slice oa (n + 1) oc) := by rw [← hwb]; exact Bx.new _ _ _
    exact (lo _ (by omega)).trans this
  · have : Bx w4 w3.heap.size 28 (.func (.func 11) #[] #[.pointer (some ⟨kb, 0, none⟩)]) := by rw [← hw4]; exact Bx.new _ _ _
    exact (hi _ (by omega) (by omega)).trans this
  · have hown : GOwn 23 1 yV w6 Wa.heap.size (.slice oa (n + 1) oc) (upl sa sc L (n + 1)) := by
      refine owns_same t1 (fun b hb => ?_)
      have hlt := (World.ownsRow.lt (show w1.ownsRow Wa.heap.size 23 1 _ _ _ from t1) b hb).2
      rw [lo b (by omega), b1b.block b hlt]
    obtain ⟨a', c', e, _, _, hr⟩ := hown.row yV_len
    injection e with e1 _ _
    subst e1
    exact hr
  · refine ⟨w3, rfl, k1, by omega, fun k hk1 hk2 => ?_⟩
    rw [hi k hk1 (by omega), b34.block k hk2]
  · have : r.2.2 ∈ sd Os := by rw [← k2]; exact List.mem_map_of_mem hr
    obtain ⟨r', hr', e'⟩ := List.mem_map.1 this
    rw [← e']
    exact hos.1 r' hr'
end Du
end Go.Proofs.Ytkpepbcoeoalkaa
