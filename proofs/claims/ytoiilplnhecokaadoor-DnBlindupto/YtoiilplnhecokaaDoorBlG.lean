import Derived.Test.YtoiilplnhecokaaDoorBlF
namespace Go.Proofs.YtoiilplnhecokaaDoor
namespace Bl
open Go.RowKit
open TextMath (fold lo normal check)
open Ke (utf cn tyOk tyC tyR OkI OkP OkD keyTx keys PR)
open Du (PRow DRow PX GRow GOwn sd sd_len pV xV pV_len xV_len)
set_option linter.unusedVariables false
set_option maxRecDepth 100000

/-- How things stand between two calls of the loop. -/
def RS (w0 : World) (gp : Nat) (a : Option Addr) (pn pc I ge : Nat) (Ls : List PX) (W : World) : Prop :=
  NRw w0 a pn ∧ Below w0.heap.size w0 W ∧ w0.heap.size ≤ gp ∧ W.heap[gp]? = some (.cells #[.slice a pn pc, .int .i64 (I : Int)] 34 (0, 0)) ∧ St (gp + 1) W ge Ls
variable {w0 : World} {gp : Nat} {a : Option Addr} {pn pc I ge : Nat} {Ls : List PX} {W W' : World}
theorem RS.pk (h : RS w0 gp a pn pc I ge Ls W) : Pk W gp a pn pc I := by
  obtain ⟨h1, h2, h3, h4, h5⟩ := h
  refine ⟨h4, fun i hi => ?_⟩
  obtain ⟨b, off, x, e, hc⟩ := h1 i hi
  exact ⟨b, off, x, e, by rw [h2.cell (World.block_lt_of_cell? _ _ hc)]; exact hc⟩
theorem RS.below (h : RS w0 gp a pn pc I ge Ls W) (hb : Below W.heap.size W W') : RS w0 gp a pn pc I ge Ls W' := by
  obtain ⟨h1, h2, h3, h4, h5⟩ := h
  exact ⟨h1, h2.trans (hb.mono h2.size), h3, by rw [hb.block gp (Array.getElem?_eq_some_iff.1 h4).1]; exact h4, h5.below hb⟩
theorem RS.next (h : RS w0 gp a pn pc I ge Ls W) (hw : W' = W ∨ ∃ q, W' = (W.drewN q).setCell ⟨gp, 1, none⟩ (.int .i64 ((I + 1 : Nat) : Int))) : ∃ I', I' ≤ I + 1 ∧ RS w0 gp a pn pc I' ge Ls W' := by
  rcases hw with rfl | ⟨q, rfl⟩
  · exact ⟨I, by omega, h⟩
  · obtain ⟨h1, h2, h3, h4, h5⟩ := h
    refine ⟨I + 1, Nat.le_refl _, h1, ?_, h3, ?_, ?_⟩
    · exact (h2.trans (Du.drewN_below W _ q)).setCell (p := ⟨gp, 1, none⟩) h3 _
    · rw [Go.heap_setCell_same (W.drewN q) gp 1 _ _ _ h4]
      simp
    · refine h5.same fun b hb _ => ?_
      rw [Go.heap_setCell_other (W.drewN q) ⟨gp, 1, none⟩ b _ (by show b ≠ gp; omega)]
      rfl
theorem RS.part (h : RS w0 gp a pn pc I ge Ls W) (i : Nat) (hi : i < Ls.length) : ∃ g, Ls[i].1 = some ⟨g, 0, none⟩ ∧ gp + 1 ≤ g ∧ PBk W g Ls[i].2.2 := by
  obtain ⟨g, e, h1, h2, h3, _⟩ := h.2.2.2.2.2.2.1 i hi
  exact ⟨g, e, h1, h3⟩
theorem RS.cell (h : RS w0 gp a pn pc I ge Ls W) (i : Nat) (hi : i < Ls.length) : W.cell? ⟨ge, i, none⟩ = some (.slice Ls[i].1 Ls[i].2.2.length Ls[i].2.1) := by
  obtain ⟨b, off, e, h1⟩ := h.2.2.2.2.1 i hi
  injection e with e
  injection e with e1 e2
  subst e1 e2
  have := h1 0 (by omega)
  rw [Nat.mul_one, Nat.zero_add, Nat.add_zero] at this
  exact this
theorem RS.turn (h : RS w0 gp a pn pc I ge Ls W) (i : Nat) (hi : i < Ls.length) (g : Nat) (hg : Ls[i].1 = some ⟨g, 0, none⟩) (ps : List PR) (hp : PBk W' g ps) (hl : ps.length = Ls[i].2.2.length) (hb : Below w0.heap.size W W') (he : ∀ b, b ≠ g → W'.heap[b]? = W.heap[b]?) (hgp : gp + 1 ≤ g) :
    RS w0 gp a pn pc I ge (Ls.set i (some ⟨g, 0, none⟩, Ls[i].2.1, ps)) W' := by
  obtain ⟨h1, h2, h3, h4, h5⟩ := h
  exact ⟨h1, h2.trans hb, h3, by rw [he gp (by omega)]; exact h4, h5.turn i hi g hg ps hp hl he⟩
theorem RS.put1 (h : RS w0 gp a pn pc I ge Ls W) (i : Nat) (hi : i < Ls.length) (g : Nat) (hg : Ls[i].1 = some ⟨g, 0, none⟩) (j : Nat) (hj : j < Ls[i].2.2.length) (t : List UInt8) :
    RS w0 gp a pn pc I ge (Ls.set i (some ⟨g, 0, none⟩, Ls[i].2.1, Ls[i].2.2.set j (t, Ls[i].2.2[j].2))) (W.setCell ⟨g, j * 2, none⟩ (.string (S t))) := by
  obtain ⟨g', e, h1, h2⟩ := h.part i hi
  rw [hg] at e
  injection e with e
  injection e with e
  subst e
  exact h.turn i hi g hg _ (h2.set1 j hj t) (by rw [List.length_set]) ((Below.refl _ _).setCell (p := ⟨g, j * 2, none⟩) (by have := h.2.2.1; show w0.heap.size ≤ g; omega) _) (fun b hb => Go.heap_setCell_other _ _ _ _ hb) h1
theorem RS.put2 (h : RS w0 gp a pn pc I ge Ls W) (i : Nat) (hi : i < Ls.length) (g : Nat) (hg : Ls[i].1 = some ⟨g, 0, none⟩) (j : Nat) (hj : j < Ls[i].2.2.length) (t : List UInt8) :
    RS w0 gp a pn pc I ge (Ls.set i (some ⟨g, 0, none⟩, Ls[i].2.1, Ls[i].2.2.set j (Ls[i].2.2[j].1, t))) (W.setCell ⟨g, j * 2 + 1, none⟩ (.string (S t))) := by
  obtain ⟨g', e, h1, h2⟩ := h.part i hi
  rw [hg] at e
  injection e with e
  injection e with e
  subst e
  exact h.turn i hi g hg _ (h2.set2 j hj t) (by rw [List.length_set]) ((Below.refl _ _).setCell (p := ⟨g, j * 2 + 1, none⟩) (by have := h.2.2.1; show w0.heap.size ≤ g; omega) _) (fun b hb => Go.heap_setCell_other _ _ _ _ hb) h1
theorem RS.putB (h : RS w0 gp a pn pc I ge Ls W) (i : Nat) (hi : i < Ls.length) (g : Nat) (hg : Ls[i].1 = some ⟨g, 0, none⟩) (j : Nat) (hj : j < Ls[i].2.2.length) (q : PR) :
    RS w0 gp a pn pc I ge (Ls.set i (some ⟨g, 0, none⟩, Ls[i].2.1, Ls[i].2.2.set j q)) ((W.setCell ⟨g, j * 2, none⟩ (.string (S q.1))).setCell ⟨g, j * 2 + 1, none⟩ (.string (S q.2))) := by
  obtain ⟨g', e, h1, h2⟩ := h.part i hi
  rw [hg] at e
  injection e with e
  injection e with e
  subst e
  exact h.turn i hi g hg _ (h2.put j hj q) (by rw [List.length_set]) (((Below.refl _ _).setCell (p := ⟨g, j * 2, none⟩) (by have := h.2.2.1; show w0.heap.size ≤ g; omega) _).setCell (p := ⟨g, j * 2 + 1, none⟩) (by have := h.2.2.1; show w0.heap.size ≤ g; omega) _) (fun b hb => by rw [Go.heap_setCell_other _ _ _ _ hb, Go.heap_setCell_other _ _ _ _ hb]) h1
/-- One part stands so. -/
def RP (w0 : World) (gp : Nat) (a : Option Addr) (pn pc I ge : Nat) (Ls : List PX) (i g cap : Nat) (ps : List PR) (W : World) : Prop :=
  RS w0 gp a pn pc I ge (Ls.set i (some ⟨g, 0, none⟩, cap, ps)) W
theorem RP.below {i g cap : Nat} {ps : List PR} (h : RP w0 gp a pn pc I ge Ls i g cap ps W) (hb : Below W.heap.size W W') : RP w0 gp a pn pc I ge Ls i g cap ps W' := RS.below h hb
theorem RP.start (h : RS w0 gp a pn pc I ge Ls W) (i : Nat) (hi : i < Ls.length) : ∃ g, gp + 1 ≤ g ∧ RP w0 gp a pn pc I ge Ls i g Ls[i].2.1 Ls[i].2.2 W ∧ Ls.set i (some ⟨g, 0, none⟩, Ls[i].2.1, Ls[i].2.2) = Ls := by
  obtain ⟨g, e, h1, _⟩ := h.part i hi
  have : ((some ⟨g, 0, none⟩, Ls[i].2.1, Ls[i].2.2) : PX) = Ls[i] := by rw [← e]
  have hs : Ls.set i (some ⟨g, 0, none⟩, Ls[i].2.1, Ls[i].2.2) = Ls := by rw [this, List.set_getElem_self]
  refine ⟨g, h1, ?_, hs⟩
  unfold RP
  rw [hs]
  exact h
theorem RP.cells {i g cap : Nat} {ps : List PR} (h : RP w0 gp a pn pc I ge Ls i g cap ps W) (hi : i < Ls.length) : W.cell? ⟨ge, i, none⟩ = some (.slice (some ⟨g, 0, none⟩) ps.length cap) ∧ ∀ j (hj : j < ps.length), W.cell? ⟨g, j * 2, none⟩ = some (.string (S ps[j].1)) ∧ W.cell? ⟨g, j * 2 + 1, none⟩ = some (.string (S ps[j].2)) ∧ W.frozen? ⟨g, j * 2, none⟩ = false ∧ W.frozen? ⟨g, j * 2 + 1, none⟩ = false := by
  have hi' : i < (Ls.set i ((some ⟨g, 0, none⟩, cap, ps) : PX)).length := by rw [List.length_set]; exact hi
  have h1 := RS.cell h i hi'
  obtain ⟨g', e, _, h2⟩ := RS.part h i hi'
  simp only [List.getElem_set_self] at h1 e h2
  injection e with e
  injection e with e
  subst e
  exact ⟨h1, fun j hj => h2.cell j hj⟩
theorem RP.next {i g cap : Nat} {ps : List PR} (h : RP w0 gp a pn pc I ge Ls i g cap ps W) (hw : W' = W ∨ ∃ q, W' = (W.drewN q).setCell ⟨gp, 1, none⟩ (.int .i64 ((I + 1 : Nat) : Int))) : ∃ I', I' ≤ I + 1 ∧ RP w0 gp a pn pc I' ge Ls i g cap ps W' := RS.next h hw
theorem RP.put1 {i g cap : Nat} {ps : List PR} (h : RP w0 gp a pn pc I ge Ls i g cap ps W) (hi : i < Ls.length) (j : Nat) (hj : j < ps.length) (t : List UInt8) : RP w0 gp a pn pc I ge Ls i g cap (ps.set j (t, ps[j].2)) (W.setCell ⟨g, j * 2, none⟩ (.string (S t))) := by
  have hi' : i < (Ls.set i ((some ⟨g, 0, none⟩, cap, ps) : PX)).length := by rw [List.length_set]; exact hi
  have := RS.put1 h i hi' g (by simp) j (by simp only [List.getElem_set_self]; exact hj) t
  simp only [List.getElem_set_self, List.set_set] at this
  exact this
theorem RP.put2 {i g cap : Nat} {ps : List PR} (h : RP w0 gp a pn pc I ge Ls i g cap ps W) (hi : i < Ls.length) (j : Nat) (hj : j < ps.length) (t : List UInt8) : RP w0 gp a pn pc I ge Ls i g cap (ps.set j (ps[j].1, t)) (W.setCell ⟨g, j * 2 + 1, none⟩ (.string (S t))) := by
  have hi' : i < (Ls.set i ((some ⟨g, 0, none⟩, cap, ps) : PX)).length := by rw [List.length_set]; exact hi
  have := RS.put2 h i hi' g (by simp) j (by simp only [List.getElem_set_self]; exact hj) t
  simp only [List.getElem_set_self, List.set_set] at this
  exact this
theorem RP.putB {i g cap : Nat} {ps : List PR} (h : RP w0 gp a pn pc I ge Ls i g cap ps W) (hi : i < Ls.length) (j : Nat) (hj : j < ps.length) (q : PR) : RP w0 gp a pn pc I ge Ls i g cap (ps.set j q) ((W.setCell ⟨g, j * 2, none⟩ (.string (S q.1))).setCell ⟨g, j * 2 + 1, none⟩ (.string (S q.2))) := by
  have hi' : i < (Ls.set i ((some ⟨g, 0, none⟩, cap, ps) : PX)).length := by rw [List.length_set]; exact hi
  have := RS.putB h i hi' g (by simp) j (by simp only [List.getElem_set_self]; exact hj) q
  simp only [List.getElem_set_self, List.set_set] at this
  exact this
/-- The bound of a pair's size: turned already, or not yet. -/
def bnd (i j k l : Nat) : Nat := if k < i ∨ (k = i ∧ l < j) then 8388608 else 1048576
theorem bnd_le (i j k l : Nat) : bnd i j k l ≤ 8388608 := by unfold bnd; split <;> omega
/-- What the lists say of one another. -/
def Inv (L Ls : List PX) (i j I : Nat) : Prop := Ls.length = L.length ∧ (∀ k (h : k < Ls.length) (h' : k < L.length), Pm Ls[k].2.2 L[k].2.2) ∧ (∀ k (h : k < Ls.length) l (h' : l < Ls[k].2.2.length), Ls[k].2.2[l].1.length + Ls[k].2.2[l].2.length ≤ bnd i j k l) ∧ I ≤ 64 * i + 4 * j
theorem Inv.row {L Ls : List PX} {i m I : Nat} (h : Inv L Ls i m I) (hi : i < Ls.length) (hm : Ls[i].2.2.length = m) (hm8 : m ≤ 8) : Inv L Ls (i + 1) 0 I := by
  obtain ⟨h1, h2, h3, h4⟩ := h
  refine ⟨h1, h2, fun k hk l hl => Nat.le_trans (h3 k hk l hl) ?_, by omega⟩
  unfold bnd
  by_cases e : k = i
  · subst e
    rw [if_pos (Or.inr ⟨rfl, by omega⟩), if_pos (Or.inl (by omega))]
    exact Nat.le_refl _
  · split
    · rw [if_pos (by omega)]; exact Nat.le_refl _
    · split <;> omega
theorem Inv.step {L Ls : List PX} {i j I I' : Nat} (h : Inv L Ls i j I) (hi : i < Ls.length) (hj : j < Ls[i].2.2.length) (k : Nat) (hk : k ≤ j) (q : PR) (hq : kp q = kp Ls[i].2.2[j]) (hs : q.1.length + q.2.length ≤ 8388608) (hI : I' ≤ I + 4) (x : Option Addr) (y : Nat) (ps : List PR)
    (hps : ps = ((Ls[i].2.2.set j q).set j ((Ls[i].2.2.set j q)[k]'(by rw [List.length_set]; omega))).set k ((Ls[i].2.2.set j q)[j]'(by rw [List.length_set]; exact hj))) : Inv L (Ls.set i (x, y, ps)) i (j + 1) I' := by
  obtain ⟨h1, h2, h3, h4⟩ := h
  have hpl : ps.length = Ls[i].2.2.length := by rw [hps]; simp
  refine ⟨by rw [List.length_set]; exact h1, fun m hm hm' => ?_, fun m hm l hl => ?_, by omega⟩
  · have hq2 : m < Ls.length := by rw [List.length_set] at hm; exact hm
    by_cases e : m = i
    · subst e
      simp only [List.getElem_set_self]
      rw [hps]
      exact (h2 m hq2 hm').step j k hj (by omega) q hq
    · have := h2 m hq2 hm'
      rw [List.getElem_set_ne (by omega)]
      exact this
  · have hq2 : m < Ls.length := by rw [List.length_set] at hm; exact hm
    by_cases e : m = i
    · subst e
      simp only [List.getElem_set_self] at hl ⊢
      have hl2 : l < Ls[m].2.2.length := by omega
      by_cases hlj : l ≤ j
      · have hb : bnd m (j + 1) m l = 8388608 := by unfold bnd; rw [if_pos (Or.inr ⟨rfl, by omega⟩)]
        rw [hb]
        have hX : ∀ z (hz : z < Ls[m].2.2.length), ((Ls[m].2.2.set j q)[z]'(by rw [List.length_set]; exact hz)).1.length + ((Ls[m].2.2.set j q)[z]'(by rw [List.length_set]; exact hz)).2.length ≤ 8388608 := fun z hz => by
          rw [List.getElem_set]
          split
          · exact hs
          · exact Nat.le_trans (h3 m hq2 z hz) (bnd_le _ _ _ _)
        have hmem : ∀ z (hz : z < ps.length), ∃ z' , ∃ hz' : z' < Ls[m].2.2.length, ps[z] = (Ls[m].2.2.set j q)[z']'(by rw [List.length_set]; exact hz') := fun z hz => by
          simp only [hps]
          rw [List.getElem_set]
          split
          · exact ⟨j, hj, rfl⟩
          · rw [List.getElem_set]
            split
            · exact ⟨k, by omega, rfl⟩
            · exact ⟨z, by omega, rfl⟩
        obtain ⟨z', hz', e'⟩ := hmem l hl
        rw [e']
        exact hX z' hz'
      · have e' : ps[l] = Ls[m].2.2[l] := by
          simp only [hps]
          rw [List.getElem_set_ne (by omega), List.getElem_set_ne (by omega), List.getElem_set_ne (by omega)]
        rw [e']
        refine Nat.le_trans (h3 m hq2 l hl2) ?_
        unfold bnd
        rw [if_neg (by omega), if_neg (by omega)]
        exact Nat.le_refl _
    · have hm2 : (Ls.set i ((x, y, ps) : PX))[m]'hm = Ls[m] := List.getElem_set_ne (by omega) _
      have hl2 : l < Ls[m].2.2.length := by rw [← hm2]; exact hl
      simp only [hm2]
      refine Nat.le_trans (h3 m hq2 l hl2) ?_
      unfold bnd
      split
      · rw [if_pos (by omega)]; exact Nat.le_refl _
      · rw [if_neg (by omega)]; exact Nat.le_refl _
theorem Inv.start {L Os : List PX} (hl : Os.length = L.length) (hs : sd Os = sd L) (hz : ∀ r ∈ L, ∀ p ∈ r.2.2, p.1.length + p.2.length ≤ 1048576) : Inv L Os 0 0 0 := by
  have key : ∀ k (h : k < Os.length) (h' : k < L.length), Os[k].2.2 = L[k].2.2 := fun k h h' => by
    have := congrArg (fun l => l[k]?) hs
    simpa [sd, h, h'] using this
  refine ⟨hl, fun k h h' => by rw [key k h h']; exact Pm.refl _, fun k h l h' => ?_, Nat.zero_le _⟩
  have e := key k h (by omega)
  simp only [e] at h' ⊢
  refine Nat.le_trans (hz _ (List.getElem_mem (by omega)) _ (List.getElem_mem h')) ?_
  unfold bnd
  rw [if_neg (by omega)]
  exact Nat.le_refl _
theorem Inv.keys {L Ls : List PX} {i j I : Nat} (h : Inv L Ls i j I) (hD : OkD (sd L)) : OkD (sd Ls) ∧ keys (sd Ls) = keys (sd L) := by
  obtain ⟨h1, h2, h3, h4⟩ := h
  have hL : ∀ k (h' : k < L.length), OkP L[k].2.2 := fun k h' => hD.2 _ (List.mem_map.2 ⟨L[k], List.getElem_mem h', rfl⟩)
  refine ⟨⟨by rw [sd_len, h1, ← sd_len]; exact hD.1, fun r hr => ?_⟩, ?_⟩
  · obtain ⟨x, hx, rfl⟩ := List.mem_map.1 hr
    obtain ⟨k, hk, rfl⟩ := List.getElem_of_mem hx
    exact (h2 k hk (by omega)).ok (hL k (by omega))
  · unfold Ke.keys
    congr 1
    refine List.ext_getElem (by simp [sd, h1]) (fun k hk hk' => ?_)
    have q1 : k < Ls.length := by simpa [sd] using hk
    have q2 : k < L.length := by omega
    simp only [List.getElem_map, sd]
    exact (h2 k q1 q2).key (hL k q2)
/-- What next answers, the state with it. -/
def NxR (w0 : World) (gp : Nat) (a : Option Addr) (pn pc I ge : Nat) (Ls : List PX) (i g cap : Nat) (ps : List PR) (m : Int) (e : Ending) (w' : World) : Prop :=
  ∃ k I' : Nat, e = .returned (.int .i64 (k : Int)) ∧ (k : Int) < m ∧ I' ≤ I + 1 ∧ RP w0 gp a pn pc I' ge Ls i g cap ps w'
theorem next_rp {i g cap : Nat} {ps : List PR} (h : RP w0 gp a pn pc I ge Ls i g cap ps W) (m : Int) (hm : 0 < m) (hm2 : m ≤ 1048576) (hI : I ≤ 1048576) (hn : pn ≤ 1073741824) :
    Calls Tryd.prog 7 #[.pointer (some ⟨gp, 0, none⟩), .int .i64 m] W fun e w' => NxR w0 gp a pn pc I ge Ls i g cap ps m e w' := by
  refine (next_any gp a pn pc I m W (RS.pk h) hm hm2 (by omega) hn).mono ?_
  rintro e w' ⟨⟨k, rfl, hk⟩, hw⟩
  obtain ⟨I', h1, h2⟩ := RP.next h hw
  exact ⟨k, I', rfl, hk, h1, h2⟩
end Bl
end Go.Proofs.YtoiilplnhecokaaDoor
