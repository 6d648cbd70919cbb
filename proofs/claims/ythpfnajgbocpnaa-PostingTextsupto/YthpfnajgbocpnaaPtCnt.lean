import Derived.Test.YthpfnajgbocpnaaPtMee
import Derived.Test.YthpfnajgbocpnaaPtCnM
import Derived.Test.YthpfnajgbocpnaaPtSeq
namespace Go.Proofs.Ythpfnajgbocpnaa
namespace Pt
open Go.RowKit Go.Sort Go.Lib Go.Shelf
open PtMath (Inc setOf cnt)
open PtHpM (Hd ky kf swpH Hp Gd sw)
open PtCnM (occ Good stepL Inn Out atl)
open PgSeq (Mv Still SeqT)
set_option linter.unusedVariables false
set_option maxRecDepth 100000
open PtT (Rk TB en)
variable {Tk : PtT.Rk}
attribute [local go_sem] Oper.semAt_some

/-- The types of the cells that counted's walk keeps: the heap's box, its row. -/
def TT (t : TypeId) : Bool := t == 51 || t == 45
/-- What a round keeps: what lies below n₀, and the cells of those types. -/
def KpC (n₀ : Nat) (W W' : World) : Prop := Below n₀ W W' ∧ ∀ (k : Nat) cs t fz, W.heap[k]? = some (Obj.cells cs t fz) → TT t = true → W'.heap[k]? = some (Obj.cells cs t fz)
theorem KpC.trans {n₀ : Nat} {A B C : World} (h : KpC n₀ A B) (k : KpC n₀ B C) : KpC n₀ A C := ⟨h.1.trans k.1, fun i cs t fz hi ht => k.2 i cs t fz (h.2 i cs t fz hi ht) ht⟩
theorem KpC.book {n₀ : Nat} {w : World} (hn : n₀ ≤ w.heap.size) (W : World) (l : Nat) (o o' : Obj) (hl : w.heap.size ≤ l) (h : W.heap[l]? = some o) (hc : o.isCells = false) (hw : o.isWalk = false) : KpC n₀ W (W.putObj l o') := by
  refine ⟨belowK_b (w := w) hn W l o o' hl h hc hw, fun k cs t fz hk _ => ?_⟩
  have hne : l ≠ k := by
    intro e
    subst e
    rw [hk] at h
    injection h with h
    subst h
    cases hc
  exact (World.putObj_heap_other hne.symm).trans hk
theorem KpC.of_below {n₀ : Nat} {W W' : World} (h : Below W.heap.size W W') (hn : n₀ ≤ W.heap.size) : KpC n₀ W W' := ⟨h.mono hn, fun k cs t fz hk _ => (h.block k (Array.getElem?_eq_some_iff.1 hk).1).trans hk⟩

def lsts (H : List Hd) : List (List Nat) := H.map fun h => h.2.2
def tot (D : List (List Nat)) : Nat := (D.map List.length).sum
theorem tot_perm {D E : List (List Nat)} (h : D.Perm E) : tot D = tot E := (h.map List.length).sum_nat
theorem lsts_step (h : Hd) (T : List Hd) : lsts (stepH (h :: T)) = stepL (lsts (h :: T)) := by
  unfold lsts
  rw [List.map_cons, PtCnM.stepL_cons]
  show List.map _ (if 1 < h.2.2.length then dropHd h :: T else T) = _
  by_cases e : 1 < h.2.2.length
  · rw [if_pos e, if_pos e]; rfl
  · rw [if_neg e, if_neg e]
theorem tot_step {l : List Nat} (T : List (List Nat)) (hl : 1 ≤ l.length) : tot (stepL (l :: T)) + 1 = tot (l :: T) := by
  rw [PtCnM.stepL_cons]
  unfold tot
  by_cases e : 1 < l.length
  · rw [if_pos e]; simp; omega
  · rw [if_neg e]; simp; omega
theorem stepH_cons (h : Hd) (T : List Hd) : stepH (h :: T) = if 1 < h.2.2.length then dropHd h :: T else T := rfl
/-- How many numbers are left, read off the world. -/
def leftW (hb : Nat) (W : World) : Nat := match W.cell? ⟨hb, 0, none⟩ with
  | some (.slice (some a) n _) => ((List.range n).map fun i => match W.cell? ⟨a.block, i, none⟩ with | some (.slice _ m _) => m | _ => 0).sum
  | _ => 0
/-- The heap of heads at the box hb. -/
def CS (Tk : PtT.Rk) (W : World) (B n₀ hb : Nat) (H : List Hd) : Prop :=
  ((∃ g cap, W.heap[hb]? = some (.cells #[.slice (some ⟨g, 0, none⟩) H.length cap] 51 (0, 0)) ∧ OwnH W B (.slice (some ⟨g, 0, none⟩) H.length cap) H) ∨ (H = [] ∧ W.heap[hb]? = some (.cells #[.slice none 0 0] 51 (0, 0)))) ∧
  (∀ x ∈ H, HdOk Tk W n₀ x) ∧ Hp (kf H) H.length 0 ∧ H.length ≤ 17592186044416 ∧ B ≤ hb ∧ n₀ ≤ B
theorem ownH_type {W : World} {B g n cap : Nat} {H : List Hd} (h : OwnH W B (.slice (some ⟨g, 0, none⟩) n cap) H) : ∃ cs, W.heap[g]? = some (.cells cs 45 (0, 0)) := by
  rcases h.2 with ⟨e, _⟩ | ⟨g', cap', cur, e, _, h4, _⟩
  · cases e
  · injection e with e1
    injection e1 with e1
    injection e1 with e1
    subst e1
    exact ⟨_, h4⟩
theorem HdOk.mono {W : World} {B C : Nat} {h : Hd} (hh : HdOk Tk W B h) (hc : B ≤ C) : HdOk Tk W C h := ⟨hh.1, hh.2.1, hh.2.2.1, fun x hx => Nat.lt_of_lt_of_le (hh.2.2.2 x hx) hc⟩
theorem HdOk.keep {W W' : World} {n₀ : Nat} {h : Hd} (hh : HdOk Tk W n₀ h) (hb : Below n₀ W W') : HdOk Tk W' n₀ h := by
  refine ⟨hh.1.of_block (fun k hk _ => hb.block k ?_), hh.2⟩
  obtain ⟨a, c, l⟩ := h
  cases a with
  | none => cases hk
  | some x => simp at hk; have := hh.2.2.2 x rfl; omega
theorem CS.keep {W W' : World} {B n₀ hb : Nat} {H : List Hd} (h : CS Tk W B n₀ hb H) (hk : KpC n₀ W W') : CS Tk W' B n₀ hb H := by
  obtain ⟨h1, h2, h3⟩ := h
  refine ⟨?_, fun x hx => (h2 x hx).keep hk.1, h3⟩
  rcases h1 with ⟨g, cap, q1, q2⟩ | ⟨e, q1⟩
  · refine Or.inl ⟨g, cap, hk.2 _ _ _ _ q1 rfl, ownH_same q2 (fun k e => ?_)⟩
    obtain ⟨cs, hcs⟩ := ownH_type q2
    simp [Value.ownBlock] at e
    subst e
    rw [hcs]
    exact hk.2 _ _ _ _ hcs rfl
  · exact Or.inr ⟨e, hk.2 _ _ _ _ q1 rfl⟩
theorem leftW_of {W : World} {B n₀ hb : Nat} {H : List Hd} (h : CS Tk W B n₀ hb H) : leftW hb W = tot (lsts H) := by
  rcases h.1 with ⟨g, cap, q1, q2⟩ | ⟨e, q1⟩
  · unfold leftW
    rw [(box_at q1).1]
    unfold tot lsts
    dsimp only
    congr 1
    apply List.ext_getElem
    · simp
    · intro i hi1 hi2
      have hi : i < H.length := by simpa using hi1
      simp [(ownH_cell q2 i hi).1, hv]
  · subst e
    unfold leftW
    rw [(box_at q1).1]
    rfl
/-- Its top, as it lies. -/
theorem CS.top {W : World} {B n₀ hb : Nat} {h : Hd} {T : List Hd} (hc : CS Tk W B n₀ hb (h :: T)) : ∃ g cap b off m c v k, h = (some ⟨b, off, none⟩, c, v :: k) ∧ m = (v :: k).length ∧ W.cell? ⟨hb, 0, none⟩ = some (.slice (some ⟨g, 0, none⟩) (h :: T).length cap) ∧ W.cell? ⟨g, 0, none⟩ = some (.slice (some ⟨b, off, none⟩) m c) ∧ W.cell? ⟨b, off, none⟩ = some (.string (TB Tk v)) ∧ (0 : Int) < (m : Int) := by
  rcases hc.1 with ⟨g, cap, q1, q2⟩ | ⟨e, _⟩
  · have hh := hc.2.1 h (List.mem_cons_self ..)
    obtain ⟨a, c, l⟩ := h
    cases l with
    | nil => have := hh.2.1.1; simp at this
    | cons v k =>
      obtain ⟨b, off, e1, e2⟩ := hh.1 0 (by simp)
      dsimp only at e1
      subst e1
      have e3 := (ownH_cell q2 0 (by simp)).1
      simp only [List.getElem_cons_zero, hv] at e3
      exact ⟨g, cap, b, off, _, c, v, k, rfl, rfl, (box_at q1).1, e3, by simpa using e2, by simp only [List.length_cons]; omega⟩
  · cases e
/-- One step of the heap. -/
theorem cs_step {W : World} {B n₀ hb : Nat} {h : Hd} {T : List Hd} (hc : CS Tk W B n₀ hb (h :: T)) :
    Calls Try.prog 31 #[.pointer (some ⟨hb, 0, none⟩)] W fun e W' => e = .returned (.tuple #[]) ∧ ∃ H', CS Tk W' B n₀ hb H' ∧ H'.Perm (stepH (h :: T)) ∧ Mv TT B W W' := by
  obtain ⟨h1, h2, h3, h4, h5, h6⟩ := hc
  rcases h1 with ⟨g, cap, q1, q2⟩ | ⟨e, _⟩
  · obtain ⟨cs, hcs⟩ := ownH_type q2
    have hne : hb ≠ g := fun e => by
      subst e
      rw [hcs] at q1
      injection q1 with q1
      injection q1 with _ q1
      exact absurd q1 (by decide)
    obtain ⟨gB, gs, gc⟩ := ownH_g q2
    refine (step_any hb g cap B h T W q1 q2 (fun x hx => (h2 x hx).mono h6) h4 h3 hne h5).mono ?_
    rintro e W' ⟨rfl, H', r1, r2, r3, r4, r5⟩
    refine ⟨rfl, H', ⟨Or.inl ⟨g, cap, r1, r2⟩, fun x hx => ?_, r4, ?_, h5, h6⟩, r3, ?_⟩
    · have hx' := r3.mem_iff.1 hx
      have hh := h2 h (List.mem_cons_self ..)
      rw [stepH_cons] at hx'
      by_cases e : 1 < h.2.2.length
      · rw [if_pos e] at hx'
        rcases List.mem_cons.1 hx' with e1 | e1
        · rw [e1]; exact (hh.drop e).but2 r5 (by omega) (by omega)
        · exact (h2 x (List.mem_cons_of_mem _ e1)).but2 r5 (by omega) (by omega)
      · rw [if_neg e] at hx'
        exact (h2 x (List.mem_cons_of_mem _ hx')).but2 r5 (by omega) (by omega)
    · have : H'.length ≤ (h :: T).length := by
        rw [r3.length_eq, stepH_cons]
        by_cases e : 1 < h.2.2.length
        · rw [if_pos e]; simp
        · rw [if_neg e]; simp
      omega
    · refine ⟨r5.1, r5.2.1, r5.2.2.1, Nat.le_of_eq r5.2.2.2.1.symm, fun k o hk => ?_⟩
      by_cases e1 : k = hb
      · subst e1
        rw [q1] at hk
        injection hk with hk
        exact Or.inr ⟨h5, Or.inr ⟨_, _, _, hk.symm, rfl⟩⟩
      · by_cases e2 : k = g
        · subst e2
          rw [hcs] at hk
          injection hk with hk
          exact Or.inr ⟨gB, Or.inr ⟨_, _, _, hk.symm, rfl⟩⟩
        · exact Or.inl ((r5.2.2.2.2 k e1 e2).trans hk)
  · cases e
end Pt
end Go.Proofs.Ythpfnajgbocpnaa
