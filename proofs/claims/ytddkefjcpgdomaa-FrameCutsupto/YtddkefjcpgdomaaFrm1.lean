import Derived.Test.YtddkefjcpgdomaaFrBytes
import Derived.BigQuiet
namespace Go.Proofs.Ytddkefjcpgdomaa
open Go.RowKit
open FrMath (Hdr lb bd within Out ends cut Cut)

theorem own_below {w w' : World} {B : Nat} {v : Value} {l : List UInt8} (h : Own w B v l) (hb : ∀ g, v.ownBlock = some g → w'.heap[g]? = w.heap[g]?) : Own w' B v l := by
  rcases h with ⟨h1, ⟨rfl, h2⟩ | ⟨g, cap, cur, rfl, h3, h4, h5⟩⟩
  · exact ⟨h1, Or.inl ⟨rfl, h2⟩⟩
  · exact ⟨h1, Or.inr ⟨g, cap, cur, rfl, h3, by rw [hb g rfl]; exact h4, h5⟩⟩
theorem own_take {w : World} {B : Nat} {a : Option Addr} {n c : Nat} {l : List UInt8} (h : Own w B (.slice a n c) l) (k : Nat) (hk : k ≤ n) : Own w B (.slice a k c) (l.take k) := by
  have hn : n = l.length := by
    rcases h with ⟨_, ⟨hv, h2⟩ | ⟨g, cap, cur, hv, _⟩⟩
    · injection hv with _ h3 _; omega
    · injection hv with _ h3 _
  have hlk : (l.take k).length = k := by rw [List.length_take]; omega
  unfold Own
  rw [hlk]
  rcases h with ⟨h1, ⟨hv, h2⟩ | ⟨g, cap, cur, hv, h3, h4, h5, h6, h7, h8⟩⟩
  · injection hv with e1 e2 e3
    have : k = 0 := by omega
    subst this e1 e3
    exact ⟨by simp [bv], Or.inl ⟨rfl, rfl⟩⟩
  · injection hv with e1 e2 e3
    subst e1 e3
    refine ⟨by rw [bv_len, hlk]; omega, Or.inr ⟨g, c, cur, rfl, h3, h4, by omega, h6, h7, ?_⟩⟩
    rw [Nat.mul_one] at h8 ⊢
    have : bv (l.take k) = (bv l).take k := by simp [bv]
    rw [this, ← h8, List.take_take]
    congr 1
    omega
theorem own_size {w : World} {B : Nat} {a : Option Addr} {n c : Nat} {l : List UInt8} (h : Own w B (.slice a n c) l) : n = l.length ∧ n ≤ c := by
  rcases h with ⟨_, ⟨hv, h2⟩ | ⟨g, cap, cur, hv, _, _, h5, _⟩⟩
  · injection hv with _ h3 h4; omega
  · injection hv with _ h3 h4; omega
theorem own_lt {w : World} {B g : Nat} {v : Value} {l : List UInt8} (h : Own w B v l) (hg : v.ownBlock = some g) : B ≤ g ∧ g < w.heap.size := by
  rcases h with ⟨_, ⟨rfl, h2⟩ | ⟨g', cap, cur, rfl, h3, h4, _⟩⟩
  · cases hg
  · injection hg with hg
    subst hg
    refine ⟨h3, ?_⟩
    rcases Nat.lt_or_ge g' w.heap.size with h' | h'
    · exact h'
    · rw [Array.getElem?_eq_none h'] at h4; cases h4

/-- A framer's variable. -/
abbrev frL (lim : Int) (p : Nat) (v : Value) (h : Hdr) : List Value := [.int .i64 lim, .int .i64 (p : Int), v, .int .i64 (h.mi : Int), .int .i64 (h.sz : Int), .int .i64 (h.er : Int)]
theorem cells6 {W : World} {b : Nat} {x0 x1 x2 x3 x4 x5 : Value} (h : Cells W b [x0, x1, x2, x3, x4, x5]) :
    (W.cell? ⟨b, 0, none⟩ = some x0 ∧ W.cell? ⟨b, 1, none⟩ = some x1 ∧ W.cell? ⟨b, 2, none⟩ = some x2 ∧ W.cell? ⟨b, 3, none⟩ = some x3 ∧ W.cell? ⟨b, 4, none⟩ = some x4 ∧ W.cell? ⟨b, 5, none⟩ = some x5)
    ∧ (W.frozen? ⟨b, 1, none⟩ = false ∧ W.frozen? ⟨b, 2, none⟩ = false ∧ W.frozen? ⟨b, 3, none⟩ = false ∧ W.frozen? ⟨b, 4, none⟩ = false ∧ W.frozen? ⟨b, 5, none⟩ = false) :=
  ⟨⟨(h 0 (by simp)).1, (h 1 (by simp)).1, (h 2 (by simp)).1, (h 3 (by simp)).1, (h 4 (by simp)).1, (h 5 (by simp)).1⟩, (h 1 (by simp)).2, (h 2 (by simp)).2, (h 3 (by simp)).2, (h 4 (by simp)).2, (h 5 (by simp)).2⟩

/-- What a step of a framer leaves alone. -/
def Keeps (fb : Nat) (v : Value) (w w' : World) : Prop := Below fb w w' ∧ ∀ b, b < w.heap.size → b ≠ fb → v.ownBlock ≠ some b → w'.heap[b]? = w.heap[b]?

set_option maxRecDepth 100000 in
set_option maxHeartbeats 1000000 in
theorem fLook_any (fb : Nat) (lim : Int) (p : Nat) (v : Value) (r : List UInt8) (h0 : Hdr) (w : World) (hC : Cells w fb (frL lim p v h0)) (hown : Own w (fb + 1) v r) :
    Calls Try.prog 33 #[.pointer (some ⟨fb, 0, none⟩)] w fun e w' => e = .returned (.tuple #[]) ∧ Cells w' fb (frL lim p v (FrMath.look lim r)) ∧ Below fb w w' ∧ ∀ b, b < w.heap.size → b ≠ fb → w'.heap[b]? = w.heap[b]? := by
  obtain ⟨ad, n, c, rfl⟩ := own_slice hown
  obtain ⟨hn, hnc⟩ := own_size hown
  have hn' : Hid (n = r.length) := hn
  obtain ⟨⟨c0, c1, c2, c3, c4, c5⟩, y1, y2, y3, y4, y5⟩ := cells6 hC
  have hfb : fb < w.heap.size := hC.lt
  have hLk : ∀ W, Hid (Calls Try.prog 23 #[.int .i64 lim, .string (S (r.take 6))] W fun r' w' => r' = .returned (hV (FrMath.look lim r)) ∧ Below W.heap.size W w') := fun W => by
    have := look_any lim (S (r.take 6)) W (by rw [S_size, List.length_take]; omega)
    rw [S_l, FrMath.look_six] at this
    exact this
  generalize FrMath.look lim r = h at *
  obtain ⟨mi, sz, er⟩ := h
  obtain ⟨X, hX⟩ : ∃ X, S (r.take 6) = X := ⟨_, rfl⟩
  rw [hX] at hLk
  clear hn
  by_cases h6 : n ≤ 6
  · have hcvO : ∀ W, Own W (fb + 1) (.slice ad n c) r → (convert 45 9 (.slice ad n c)).run Try.prog W = .ok (.string X) W := fun W hW => by
      have := own_conv hW
      rw [← hX, List.take_of_length_le (by have := hn'.out; omega)]
      exact this
    have hcv := hcvO w.drew (World.ownsRow.drew hown)
    have d1 : (if (6 : Int) < (n : Int) then (6 : Int) else (n : Int)) = (n : Int) := if_neg (by omega)
    have n0 : (0 : Int) ≤ (n : Int) := by omega
    have n1 : (n : Int) ≤ (c : Int) := by omega
    clear hX
    go_enter Try.func33, Try.ntmps33
    refine wp_region_noPanic ?_
    refine wp_region_held_drew (S := fun W => W.cell? ⟨fb, 0, none⟩ = some (.int .i64 lim) ∧ W.cell? ⟨fb, 2, none⟩ = some (.slice ad n c) ∧ (convert 45 9 (.slice ad n c)).run Try.prog W = .ok (.string X) W) (by kernel_rfl) ⟨c0, c2, hcv⟩ (fun _ => ?_)
    refine wpAnyH_take (i := 0) (v := ?va1) (by simp only [List.getElem?_toArray, List.getElem?_cons_zero]; exact rfl) (by kernel_rfl) (by kernel_rfl) (by kernel_rfl) (fun _ _ _ h => h) (Or.inl ⟨by rfl, ?ya1⟩) ⟨c0, c2, hcv⟩ ?ra1
    case ya1 =>
      intro w' hS
      obtain ⟨s0, s2, s9⟩ := hS
      go_simp
      try with_reducible rfl
    case ra1 =>
    simp only [Act.put, List.setIfInBounds_toArray, List.set_cons_zero, List.set_cons_succ]
    refine wpAnyH_take (i := 1) (v := ?va2) (by simp only [List.getElem?_toArray, List.getElem?_cons_zero, List.getElem?_cons_succ]; exact rfl) (by kernel_rfl) (by kernel_rfl) (by kernel_rfl) (fun _ _ _ h => h) (Or.inl ⟨by rfl, ?ya2⟩) ⟨c0, c2, hcv⟩ ?ra2
    case ya2 =>
      intro w' hS
      obtain ⟨s0, s2, s9⟩ := hS
      go_simp
      try with_reducible rfl
    case ra2 =>
    simp only [Act.put, List.setIfInBounds_toArray, List.set_cons_zero, List.set_cons_succ]
    refine wpAnyH_take (i := 2) (v := ?va3) (by simp only [List.getElem?_toArray, List.getElem?_cons_zero, List.getElem?_cons_succ]; exact rfl) (by kernel_rfl) (by kernel_rfl) (by kernel_rfl) (fun _ _ _ h => h) (Or.inl ⟨by rfl, ?ya3⟩) ⟨c0, c2, hcv⟩ ?ra3
    case ya3 =>
      intro w' hS
      obtain ⟨s0, s2, s9⟩ := hS
      go_simp
      try with_reducible rfl
    case ra3 =>
    simp only [Act.put, List.setIfInBounds_toArray, List.set_cons_zero, List.set_cons_succ]
    refine wpAnyH_take (i := 3) (v := ?va4) (by simp only [List.getElem?_toArray, List.getElem?_cons_zero, List.getElem?_cons_succ]; exact rfl) (by kernel_rfl) (by kernel_rfl) (by kernel_rfl) (fun _ _ _ h => h) (Or.inl ⟨by rfl, ?ya4⟩) ⟨c0, c2, hcv⟩ ?ra4
    case ya4 =>
      intro w' hS
      obtain ⟨s0, s2, s9⟩ := hS
      go_simp
      try with_reducible rfl
    case ra4 =>
    simp only [Act.put, List.setIfInBounds_toArray, List.set_cons_zero, List.set_cons_succ]
    refine wpAnyH_take (i := 4) (v := ?va5) (by simp only [List.getElem?_toArray, List.getElem?_cons_zero, List.getElem?_cons_succ]; exact rfl) (by kernel_rfl) (by kernel_rfl) (by kernel_rfl) (fun _ _ _ h => h) (Or.inl ⟨by rfl, ?ya5⟩) ⟨c0, c2, hcv⟩ ?ra5
    case ya5 =>
      intro w' hS
      obtain ⟨s0, s2, s9⟩ := hS
      go_simp
      try with_reducible rfl
    case ra5 =>
    simp only [Act.put, List.setIfInBounds_toArray, List.set_cons_zero, List.set_cons_succ]
    refine wpAnyH_take (i := 5) (v := ?va6) (by simp only [List.getElem?_toArray, List.getElem?_cons_zero, List.getElem?_cons_succ]; exact rfl) (by kernel_rfl) (by kernel_rfl) (by kernel_rfl) (fun _ _ _ h => h) (Or.inl ⟨by rfl, ?ya6⟩) ⟨c0, c2, hcv⟩ ?ra6
    case ya6 =>
      intro w' hS
      obtain ⟨s0, s2, s9⟩ := hS
      go_simp
      try with_reducible rfl
    case ra6 =>
    simp only [Act.put, List.setIfInBounds_toArray, List.set_cons_zero, List.set_cons_succ]
    refine wpAnyH_take (i := 6) (v := ?va7) (by simp only [List.getElem?_toArray, List.getElem?_cons_zero, List.getElem?_cons_succ]; exact rfl) (by kernel_rfl) (by kernel_rfl) (by kernel_rfl) (fun _ _ _ h => h) (Or.inl ⟨by rfl, ?ya7⟩) ⟨c0, c2, hcv⟩ ?ra7
    case ya7 =>
      intro w' hS
      obtain ⟨s0, s2, s9⟩ := hS
      go_simp
      try with_reducible rfl
    case ra7 =>
    simp only [Act.put, List.setIfInBounds_toArray, List.set_cons_zero, List.set_cons_succ]
    refine wpAnyH_take (i := 7) (v := ?va8) (by simp only [List.getElem?_toArray, List.getElem?_cons_zero, List.getElem?_cons_succ]; exact rfl) (by kernel_rfl) (by kernel_rfl) (by kernel_rfl) (fun _ _ _ h => h) (Or.inl ⟨by rfl, ?ya8⟩) ⟨c0, c2, hcv⟩ ?ra8
    case ya8 =>
      intro w' hS
      obtain ⟨s0, s2, s9⟩ := hS
      go_simp
      try with_reducible rfl
    case ra8 =>
    simp only [Act.put, List.setIfInBounds_toArray, List.set_cons_zero, List.set_cons_succ]
    refine wpAnyH_take (i := 8) (v := ?va9) (by simp only [List.getElem?_toArray, List.getElem?_cons_zero, List.getElem?_cons_succ]; exact rfl) (by kernel_rfl) (by kernel_rfl) (by kernel_rfl) (fun _ _ _ h => h) (Or.inl ⟨by rfl, ?ya9⟩) ⟨c0, c2, hcv⟩ ?ra9
    case ya9 =>
      intro w' hS
      obtain ⟨s0, s2, s9⟩ := hS
      go_simp
      try with_reducible rfl
    case ra9 =>
    simp only [Act.put, List.setIfInBounds_toArray, List.set_cons_zero, List.set_cons_succ]
    refine wpAnyH_take (i := 9) (v := ?va10) (by simp only [List.getElem?_toArray, List.getElem?_cons_zero, List.getElem?_cons_succ]; exact rfl) (by kernel_rfl) (by kernel_rfl) (by kernel_rfl) (fun _ _ _ h => h) (Or.inl ⟨by rfl, ?ya10⟩) ⟨c0, c2, hcv⟩ ?ra10
    case ya10 =>
      intro w' hS
      obtain ⟨s0, s2, s9⟩ := hS
      go_simp
      try with_reducible rfl
    case ra10 =>
    simp only [Act.put, List.setIfInBounds_toArray, List.set_cons_zero, List.set_cons_succ]
    refine wpAnyH_take (i := 10) (v := ?va11) (by simp only [List.getElem?_toArray, List.getElem?_cons_zero, List.getElem?_cons_succ]; exact rfl) (by kernel_rfl) (by kernel_rfl) (by kernel_rfl) (fun _ _ _ h => h) (Or.inl ⟨by rfl, ?ya11⟩) ⟨c0, c2, hcv⟩ ?ra11
    case ya11 =>
      intro w' hS
      obtain ⟨s0, s2, s9⟩ := hS
      go_simp
      try with_reducible rfl
    case ra11 =>
    simp only [Act.put, List.setIfInBounds_toArray, List.set_cons_zero, List.set_cons_succ]
    refine wpAnyH_take (i := 11) (v := ?va12) (by simp only [List.getElem?_toArray, List.getElem?_cons_zero, List.getElem?_cons_succ]; exact rfl) (by kernel_rfl) (by kernel_rfl) (by kernel_rfl) (fun _ _ _ h => h) (Or.inl ⟨by rfl, ?ya12⟩) ⟨c0, c2, hcv⟩ ?ra12
    case ya12 =>
      intro w' hS
      obtain ⟨s0, s2, s9⟩ := hS
      go_simp
      try with_reducible rfl
    case ra12 =>
    simp only [Act.put, List.setIfInBounds_toArray, List.set_cons_zero, List.set_cons_succ]
    refine wpAnyH_take (i := 12) (v := ?va13) (by simp only [List.getElem?_toArray, List.getElem?_cons_zero, List.getElem?_cons_succ]; exact rfl) (by kernel_rfl) (by kernel_rfl) (by kernel_rfl) (fun _ _ _ h => h) (Or.inl ⟨by rfl, ?ya13⟩) ⟨c0, c2, hcv⟩ ?ra13
    case ya13 =>
      intro w' hS
      obtain ⟨s0, s2, s9⟩ := hS
      go_simp
      try with_reducible rfl
    case ra13 =>
    simp only [Act.put, List.setIfInBounds_toArray, List.set_cons_zero, List.set_cons_succ]
    refine wpAnyH_take (i := 13) (v := ?va14) (by simp only [List.getElem?_toArray, List.getElem?_cons_zero, List.getElem?_cons_succ]; exact rfl) (by kernel_rfl) (by kernel_rfl) (by kernel_rfl) (fun _ _ _ h => h) (Or.inl ⟨by rfl, ?ya14⟩) ⟨c0, c2, hcv⟩ ?ra14
    case ya14 =>
      intro w' hS
      obtain ⟨s0, s2, s9⟩ := hS
      go_simp
      try with_reducible rfl
    case ra14 =>
    simp only [Act.put, List.setIfInBounds_toArray, List.set_cons_zero, List.set_cons_succ]
    refine wpAnyH_take (i := 14) (v := ?va15) (by simp only [List.getElem?_toArray, List.getElem?_cons_zero, List.getElem?_cons_succ]; exact rfl) (by kernel_rfl) (by kernel_rfl) (by kernel_rfl) (fun _ _ _ h => h) (Or.inl ⟨by rfl, ?ya15⟩) ⟨c0, c2, hcv⟩ ?ra15
    case ya15 =>
      intro w' hS
      obtain ⟨s0, s2, s9⟩ := hS
      go_simp
      try with_reducible rfl
    case ra15 =>
    simp only [Act.put, List.setIfInBounds_toArray, List.set_cons_zero, List.set_cons_succ]
    refine wpAnyH_take (i := 15) (v := ?va16) (by simp only [List.getElem?_toArray, List.getElem?_cons_zero, List.getElem?_cons_succ]; exact rfl) (by kernel_rfl) (by kernel_rfl) (by kernel_rfl) (fun _ _ _ h => h) (Or.inl ⟨by rfl, ?ya16⟩) ⟨c0, c2, hcv⟩ ?ra16
    case ya16 =>
      intro w' hS
      obtain ⟨s0, s2, s9⟩ := hS
      go_simp
      try with_reducible rfl
    case ra16 =>
    simp only [Act.put, List.setIfInBounds_toArray, List.set_cons_zero, List.set_cons_succ]
    refine wpAnyH_take (i := 16) (v := ?va17) (by simp only [List.getElem?_toArray, List.getElem?_cons_zero, List.getElem?_cons_succ]; exact rfl) (by kernel_rfl) (by kernel_rfl) (by kernel_rfl) (fun _ _ _ h => h) (Or.inl ⟨by rfl, ?ya17⟩) ⟨c0, c2, hcv⟩ ?ra17
    case ya17 =>
      intro w' hS
      obtain ⟨s0, s2, s9⟩ := hS
      go_simp
      try with_reducible rfl
    case ra17 =>
    simp only [Act.put, List.setIfInBounds_toArray, List.set_cons_zero, List.set_cons_succ]
    refine wpAnyH_ready (rs := [17]) (by kernel_rfl) (by simp) ?_
    refine AllReadyH.cons (by simp only [List.getElem?_toArray, List.getElem?_cons_zero, List.getElem?_cons_succ]; exact rfl) (fun K hK => ?_) AllReadyH.nil
    go_simp
    refine (hLk _).out.mono ?_
    rintro r' w1 ⟨rfl, hb1⟩
    have hC1 : Cells w1 fb (frL lim p (.slice ad n c) h0) := hC.of_block (hb1.block fb hfb)
    obtain ⟨⟨q0, q1, q2, q3, q4, q5⟩, z1, z2, z3, z4, z5⟩ := cells6 hC1
    have hown1 : Own w1 (fb + 1) (.slice ad n c) r := own_below hown (fun g hg => hb1.block g (own_lt hown hg).2)
    have hS1 : w1.cell? ⟨fb, 0, none⟩ = some (.int .i64 lim) ∧ w1.cell? ⟨fb, 2, none⟩ = some (.slice ad n c) ∧ (convert 45 9 (.slice ad n c)).run Try.prog w1 = .ok (.string X) w1 := ⟨q0, q2, hcvO _ hown1⟩
    go_simp
    refine hK.out _ _ hS1 (fun _ => ?_)
    clear hK K
    refine wpAnyH_take (i := 18) (v := ?va18) (by simp only [List.getElem?_toArray, List.getElem?_cons_zero, List.getElem?_cons_succ]; exact rfl) (by kernel_rfl) (by kernel_rfl) (by kernel_rfl) (fun _ _ _ h => h) (Or.inl ⟨by rfl, ?ya18⟩) hS1 ?ra18
    case ya18 =>
      intro w' hS
      obtain ⟨s0, s2, s9⟩ := hS
      go_simp
      try with_reducible rfl
    case ra18 =>
    simp only [Act.put, List.setIfInBounds_toArray, List.set_cons_zero, List.set_cons_succ]
    refine wpAnyH_take (i := 19) (v := ?va19) (by simp only [List.getElem?_toArray, List.getElem?_cons_zero, List.getElem?_cons_succ]; exact rfl) (by kernel_rfl) (by kernel_rfl) (by kernel_rfl) (fun _ _ _ h => h) (Or.inl ⟨by rfl, ?ya19⟩) hS1 ?ra19
    case ya19 =>
      intro w' hS
      obtain ⟨s0, s2, s9⟩ := hS
      go_simp
      try with_reducible rfl
    case ra19 =>
    simp only [Act.put, List.setIfInBounds_toArray, List.set_cons_zero, List.set_cons_succ]
    refine wpAnyH_ready (rs := [20]) (by kernel_rfl) (by simp) ?_
    refine AllReadyH.cons (by simp only [List.getElem?_toArray, List.getElem?_cons_zero, List.getElem?_cons_succ]; exact rfl) (fun K hK => ?_) AllReadyH.nil
    have hC2 : Cells (((w1.setCell ⟨fb, 3, none⟩ (.int .i64 (mi : Int))).setCell ⟨fb, 4, none⟩ (.int .i64 (sz : Int))).setCell ⟨fb, 5, none⟩ (.int .i64 (er : Int))) fb (frL lim p (.slice ad n c) ⟨mi, sz, er⟩) := ((hC1.set 3 (by simp) _).set 4 (by simp) _).set 5 (by simp) _
    have hown2 : Own (((w1.setCell ⟨fb, 3, none⟩ (.int .i64 (mi : Int))).setCell ⟨fb, 4, none⟩ (.int .i64 (sz : Int))).setCell ⟨fb, 5, none⟩ (.int .i64 (er : Int))) (fb + 1) (.slice ad n c) r := own_below hown1 (fun g hg => by have hne := (own_lt hown1 hg).1; rw [Below.heap_setCell _ _ _ _ (by show g ≠ fb; omega), Below.heap_setCell _ _ _ _ (by show g ≠ fb; omega), Below.heap_setCell _ _ _ _ (by show g ≠ fb; omega)])
    obtain ⟨⟨u0, _, u2, _, _, _⟩, _⟩ := cells6 hC2
    have hB2 : Below fb w (((w1.setCell ⟨fb, 3, none⟩ (.int .i64 (mi : Int))).setCell ⟨fb, 4, none⟩ (.int .i64 (sz : Int))).setCell ⟨fb, 5, none⟩ (.int .i64 (er : Int))) := by
      refine Below.setCell (Below.setCell (Below.setCell (((Below.refl fb w).drew).trans (hb1.mono (Nat.le_of_lt hfb))) ?_ _) ?_ _) ?_ _ <;> exact Nat.le_refl _
    have hK2 : ∀ b, b < w.heap.size → b ≠ fb → (((w1.setCell ⟨fb, 3, none⟩ (.int .i64 (mi : Int))).setCell ⟨fb, 4, none⟩ (.int .i64 (sz : Int))).setCell ⟨fb, 5, none⟩ (.int .i64 (er : Int))).heap[b]? = w.heap[b]? := fun b hb hne => by
      rw [Below.heap_setCell _ _ _ _ (by show b ≠ fb; exact hne), Below.heap_setCell _ _ _ _ (by show b ≠ fb; exact hne), Below.heap_setCell _ _ _ _ (by show b ≠ fb; exact hne), hb1.block b hb]
      rfl
    go_simp
    refine hK.out _ _ ⟨u0, u2, hcvO _ hown2⟩ (fun _ => ?_)
    clear hK K
    refine wpAnyH_done (by kernel_rfl) ?_ _
    refine NoPanic.normal ?_
    clear hcvO hLk
    go_wp2_with fail
    go_end0
    exact ⟨rfl, hC2, hB2, hK2⟩
  · have hcvO : ∀ W, Own W (fb + 1) (.slice ad n c) r → (convert 45 9 (.slice ad 6 c)).run Try.prog W = .ok (.string X) W := fun W hW => by
      have := own_conv (own_take hW 6 (by omega))
      rw [← hX]
      exact this
    have hcv := hcvO w.drew (World.ownsRow.drew hown)
    have d1 : (if (6 : Int) < (n : Int) then (6 : Int) else (n : Int)) = 6 := if_pos (by omega)
    have n1 : (6 : Int) ≤ (c : Int) := by omega
    have n2 : 6 ≤ c := by omega
    clear hX
    go_enter Try.func33, Try.ntmps33
    refine wp_region_noPanic ?_
    refine wp_region_held_drew (S := fun W => W.cell? ⟨fb, 0, none⟩ = some (.int .i64 lim) ∧ W.cell? ⟨fb, 2, none⟩ = some (.slice ad n c) ∧ (convert 45 9 (.slice ad 6 c)).run Try.prog W = .ok (.string X) W) (by kernel_rfl) ⟨c0, c2, hcv⟩ (fun _ => ?_)
    refine wpAnyH_take (i := 0) (v := ?va20) (by simp only [List.getElem?_toArray, List.getElem?_cons_zero]; exact rfl) (by kernel_rfl) (by kernel_rfl) (by kernel_rfl) (fun _ _ _ h => h) (Or.inl ⟨by rfl, ?ya20⟩) ⟨c0, c2, hcv⟩ ?ra20
    case ya20 =>
      intro w' hS
      obtain ⟨s0, s2, s9⟩ := hS
      go_simp
      try with_reducible rfl
    case ra20 =>
    simp only [Act.put, List.setIfInBounds_toArray, List.set_cons_zero, List.set_cons_succ]
    refine wpAnyH_take (i := 1) (v := ?va21) (by simp only [List.getElem?_toArray, List.getElem?_cons_zero, List.getElem?_cons_succ]; exact rfl) (by kernel_rfl) (by kernel_rfl) (by kernel_rfl) (fun _ _ _ h => h) (Or.inl ⟨by rfl, ?ya21⟩) ⟨c0, c2, hcv⟩ ?ra21
    case ya21 =>
      intro w' hS
      obtain ⟨s0, s2, s9⟩ := hS
      go_simp
      try with_reducible rfl
    case ra21 =>
    simp only [Act.put, List.setIfInBounds_toArray, List.set_cons_zero, List.set_cons_succ]
    refine wpAnyH_take (i := 2) (v := ?va22) (by simp only [List.getElem?_toArray, List.getElem?_cons_zero, List.getElem?_cons_succ]; exact rfl) (by kernel_rfl) (by kernel_rfl) (by kernel_rfl) (fun _ _ _ h => h) (Or.inl ⟨by rfl, ?ya22⟩) ⟨c0, c2, hcv⟩ ?ra22
    case ya22 =>
      intro w' hS
      obtain ⟨s0, s2, s9⟩ := hS
      go_simp
      try with_reducible rfl
    case ra22 =>
    simp only [Act.put, List.setIfInBounds_toArray, List.set_cons_zero, List.set_cons_succ]
    refine wpAnyH_take (i := 3) (v := ?va23) (by simp only [List.getElem?_toArray, List.getElem?_cons_zero, List.getElem?_cons_succ]; exact rfl) (by kernel_rfl) (by kernel_rfl) (by kernel_rfl) (fun _ _ _ h => h) (Or.inl ⟨by rfl, ?ya23⟩) ⟨c0, c2, hcv⟩ ?ra23
    case ya23 =>
      intro w' hS
      obtain ⟨s0, s2, s9⟩ := hS
      go_simp
      try with_reducible rfl
    case ra23 =>
    simp only [Act.put, List.setIfInBounds_toArray, List.set_cons_zero, List.set_cons_succ]
    refine wpAnyH_take (i := 4) (v := ?va24) (by simp only [List.getElem?_toArray, List.getElem?_cons_zero, List.getElem?_cons_succ]; exact rfl) (by kernel_rfl) (by kernel_rfl) (by kernel_rfl) (fun _ _ _ h => h) (Or.inl ⟨by rfl, ?ya24⟩) ⟨c0, c2, hcv⟩ ?ra24
    case ya24 =>
      intro w' hS
      obtain ⟨s0, s2, s9⟩ := hS
      go_simp
      try with_reducible rfl
    case ra24 =>
    simp only [Act.put, List.setIfInBounds_toArray, List.set_cons_zero, List.set_cons_succ]
    refine wpAnyH_take (i := 5) (v := ?va25) (by simp only [List.getElem?_toArray, List.getElem?_cons_zero, List.getElem?_cons_succ]; exact rfl) (by kernel_rfl) (by kernel_rfl) (by kernel_rfl) (fun _ _ _ h => h) (Or.inl ⟨by rfl, ?ya25⟩) ⟨c0, c2, hcv⟩ ?ra25
    case ya25 =>
      intro w' hS
      obtain ⟨s0, s2, s9⟩ := hS
      go_simp
      try with_reducible rfl
    case ra25 =>
    simp only [Act.put, List.setIfInBounds_toArray, List.set_cons_zero, List.set_cons_succ]
    refine wpAnyH_take (i := 6) (v := ?va26) (by simp only [List.getElem?_toArray, List.getElem?_cons_zero, List.getElem?_cons_succ]; exact rfl) (by kernel_rfl) (by kernel_rfl) (by kernel_rfl) (fun _ _ _ h => h) (Or.inl ⟨by rfl, ?ya26⟩) ⟨c0, c2, hcv⟩ ?ra26
    case ya26 =>
      intro w' hS
      obtain ⟨s0, s2, s9⟩ := hS
      go_simp
      try with_reducible rfl
    case ra26 =>
    simp only [Act.put, List.setIfInBounds_toArray, List.set_cons_zero, List.set_cons_succ]
    refine wpAnyH_take (i := 7) (v := ?va27) (by simp only [List.getElem?_toArray, List.getElem?_cons_zero, List.getElem?_cons_succ]; exact rfl) (by kernel_rfl) (by kernel_rfl) (by kernel_rfl) (fun _ _ _ h => h) (Or.inl ⟨by rfl, ?ya27⟩) ⟨c0, c2, hcv⟩ ?ra27
    case ya27 =>
      intro w' hS
      obtain ⟨s0, s2, s9⟩ := hS
      go_simp
      try with_reducible rfl
    case ra27 =>
    simp only [Act.put, List.setIfInBounds_toArray, List.set_cons_zero, List.set_cons_succ]
    refine wpAnyH_take (i := 8) (v := ?va28) (by simp only [List.getElem?_toArray, List.getElem?_cons_zero, List.getElem?_cons_succ]; exact rfl) (by kernel_rfl) (by kernel_rfl) (by kernel_rfl) (fun _ _ _ h => h) (Or.inl ⟨by rfl, ?ya28⟩) ⟨c0, c2, hcv⟩ ?ra28
    case ya28 =>
      intro w' hS
      obtain ⟨s0, s2, s9⟩ := hS
      go_simp
      try with_reducible rfl
    case ra28 =>
    simp only [Act.put, List.setIfInBounds_toArray, List.set_cons_zero, List.set_cons_succ]
    refine wpAnyH_take (i := 9) (v := ?va29) (by simp only [List.getElem?_toArray, List.getElem?_cons_zero, List.getElem?_cons_succ]; exact rfl) (by kernel_rfl) (by kernel_rfl) (by kernel_rfl) (fun _ _ _ h => h) (Or.inl ⟨by rfl, ?ya29⟩) ⟨c0, c2, hcv⟩ ?ra29
    case ya29 =>
      intro w' hS
      obtain ⟨s0, s2, s9⟩ := hS
      go_simp
      try with_reducible rfl
    case ra29 =>
    simp only [Act.put, List.setIfInBounds_toArray, List.set_cons_zero, List.set_cons_succ]
    refine wpAnyH_take (i := 10) (v := ?va30) (by simp only [List.getElem?_toArray, List.getElem?_cons_zero, List.getElem?_cons_succ]; exact rfl) (by kernel_rfl) (by kernel_rfl) (by kernel_rfl) (fun _ _ _ h => h) (Or.inl ⟨by rfl, ?ya30⟩) ⟨c0, c2, hcv⟩ ?ra30
    case ya30 =>
      intro w' hS
      obtain ⟨s0, s2, s9⟩ := hS
      go_simp
      try with_reducible rfl
    case ra30 =>
    simp only [Act.put, List.setIfInBounds_toArray, List.set_cons_zero, List.set_cons_succ]
    refine wpAnyH_take (i := 11) (v := ?va31) (by simp only [List.getElem?_toArray, List.getElem?_cons_zero, List.getElem?_cons_succ]; exact rfl) (by kernel_rfl) (by kernel_rfl) (by kernel_rfl) (fun _ _ _ h => h) (Or.inl ⟨by rfl, ?ya31⟩) ⟨c0, c2, hcv⟩ ?ra31
    case ya31 =>
      intro w' hS
      obtain ⟨s0, s2, s9⟩ := hS
      go_simp
      try with_reducible rfl
    case ra31 =>
    simp only [Act.put, List.setIfInBounds_toArray, List.set_cons_zero, List.set_cons_succ]
    refine wpAnyH_take (i := 12) (v := ?va32) (by simp only [List.getElem?_toArray, List.getElem?_cons_zero, List.getElem?_cons_succ]; exact rfl) (by kernel_rfl) (by kernel_rfl) (by kernel_rfl) (fun _ _ _ h => h) (Or.inl ⟨by rfl, ?ya32⟩) ⟨c0, c2, hcv⟩ ?ra32
    case ya32 =>
      intro w' hS
      obtain ⟨s0, s2, s9⟩ := hS
      go_simp
      try with_reducible rfl
    case ra32 =>
    simp only [Act.put, List.setIfInBounds_toArray, List.set_cons_zero, List.set_cons_succ]
    refine wpAnyH_take (i := 13) (v := ?va33) (by simp only [List.getElem?_toArray, List.getElem?_cons_zero, List.getElem?_cons_succ]; exact rfl) (by kernel_rfl) (by kernel_rfl) (by kernel_rfl) (fun _ _ _ h => h) (Or.inl ⟨by rfl, ?ya33⟩) ⟨c0, c2, hcv⟩ ?ra33
    case ya33 =>
      intro w' hS
      obtain ⟨s0, s2, s9⟩ := hS
      go_simp
      try with_reducible rfl
    case ra33 =>
    simp only [Act.put, List.setIfInBounds_toArray, List.set_cons_zero, List.set_cons_succ]
    refine wpAnyH_take (i := 14) (v := ?va34) (by simp only [List.getElem?_toArray, List.getElem?_cons_zero, List.getElem?_cons_succ]; exact rfl) (by kernel_rfl) (by kernel_rfl) (by kernel_rfl) (fun _ _ _ h => h) (Or.inl ⟨by rfl, ?ya34⟩) ⟨c0, c2, hcv⟩ ?ra34
    case ya34 =>
      intro w' hS
      obtain ⟨s0, s2, s9⟩ := hS
      go_simp
      try with_reducible rfl
    case ra34 =>
    simp only [Act.put, List.setIfInBounds_toArray, List.set_cons_zero, List.set_cons_succ]
    refine wpAnyH_take (i := 15) (v := ?va35) (by simp only [List.getElem?_toArray, List.getElem?_cons_zero, List.getElem?_cons_succ]; exact rfl) (by kernel_rfl) (by kernel_rfl) (by kernel_rfl) (fun _ _ _ h => h) (Or.inl ⟨by rfl, ?ya35⟩) ⟨c0, c2, hcv⟩ ?ra35
    case ya35 =>
      intro w' hS
      obtain ⟨s0, s2, s9⟩ := hS
      go_simp
      try with_reducible rfl
    case ra35 =>
    simp only [Act.put, List.setIfInBounds_toArray, List.set_cons_zero, List.set_cons_succ]
    refine wpAnyH_take (i := 16) (v := ?va36) (by simp only [List.getElem?_toArray, List.getElem?_cons_zero, List.getElem?_cons_succ]; exact rfl) (by kernel_rfl) (by kernel_rfl) (by kernel_rfl) (fun _ _ _ h => h) (Or.inl ⟨by rfl, ?ya36⟩) ⟨c0, c2, hcv⟩ ?ra36
    case ya36 =>
      intro w' hS
      obtain ⟨s0, s2, s9⟩ := hS
      go_simp
      try with_reducible rfl
    case ra36 =>
    simp only [Act.put, List.setIfInBounds_toArray, List.set_cons_zero, List.set_cons_succ]
    refine wpAnyH_ready (rs := [17]) (by kernel_rfl) (by simp) ?_
    refine AllReadyH.cons (by simp only [List.getElem?_toArray, List.getElem?_cons_zero, List.getElem?_cons_succ]; exact rfl) (fun K hK => ?_) AllReadyH.nil
    go_simp
    refine (hLk _).out.mono ?_
    rintro r' w1 ⟨rfl, hb1⟩
    have hC1 : Cells w1 fb (frL lim p (.slice ad n c) h0) := hC.of_block (hb1.block fb hfb)
    obtain ⟨⟨q0, q1, q2, q3, q4, q5⟩, z1, z2, z3, z4, z5⟩ := cells6 hC1
    have hown1 : Own w1 (fb + 1) (.slice ad n c) r := own_below hown (fun g hg => hb1.block g (own_lt hown hg).2)
    have hS1 : w1.cell? ⟨fb, 0, none⟩ = some (.int .i64 lim) ∧ w1.cell? ⟨fb, 2, none⟩ = some (.slice ad n c) ∧ (convert 45 9 (.slice ad 6 c)).run Try.prog w1 = .ok (.string X) w1 := ⟨q0, q2, hcvO _ hown1⟩
    go_simp
    refine hK.out _ _ hS1 (fun _ => ?_)
    clear hK K
    refine wpAnyH_take (i := 18) (v := ?va37) (by simp only [List.getElem?_toArray, List.getElem?_cons_zero, List.getElem?_cons_succ]; exact rfl) (by kernel_rfl) (by kernel_rfl) (by kernel_rfl) (fun _ _ _ h => h) (Or.inl ⟨by rfl, ?ya37⟩) hS1 ?ra37
    case ya37 =>
      intro w' hS
      obtain ⟨s0, s2, s9⟩ := hS
      go_simp
      try with_reducible rfl
    case ra37 =>
    simp only [Act.put, List.setIfInBounds_toArray, List.set_cons_zero, List.set_cons_succ]
    refine wpAnyH_take (i := 19) (v := ?va38) (by simp only [List.getElem?_toArray, List.getElem?_cons_zero, List.getElem?_cons_succ]; exact rfl) (by kernel_rfl) (by kernel_rfl) (by kernel_rfl) (fun _ _ _ h => h) (Or.inl ⟨by rfl, ?ya38⟩) hS1 ?ra38
    case ya38 =>
      intro w' hS
      obtain ⟨s0, s2, s9⟩ := hS
      go_simp
      try with_reducible rfl
    case ra38 =>
    simp only [Act.put, List.setIfInBounds_toArray, List.set_cons_zero, List.set_cons_succ]
    refine wpAnyH_ready (rs := [20]) (by kernel_rfl) (by simp) ?_
    refine AllReadyH.cons (by simp only [List.getElem?_toArray, List.getElem?_cons_zero, List.getElem?_cons_succ]; exact rfl) (fun K hK => ?_) AllReadyH.nil
    have hC2 : Cells (((w1.setCell ⟨fb, 3, none⟩ (.int .i64 (mi : Int))).setCell ⟨fb, 4, none⟩ (.int .i64 (sz : Int))).setCell ⟨fb, 5, none⟩ (.int .i64 (er : Int))) fb (frL lim p (.slice ad n c) ⟨mi, sz, er⟩) := ((hC1.set 3 (by simp) _).set 4 (by simp) _).set 5 (by simp) _
    have hown2 : Own (((w1.setCell ⟨fb, 3, none⟩ (.int .i64 (mi : Int))).setCell ⟨fb, 4, none⟩ (.int .i64 (sz : Int))).setCell ⟨fb, 5, none⟩ (.int .i64 (er : Int))) (fb + 1) (.slice ad n c) r := own_below hown1 (fun g hg => by have hne := (own_lt hown1 hg).1; rw [Below.heap_setCell _ _ _ _ (by show g ≠ fb; omega), Below.heap_setCell _ _ _ _ (by show g ≠ fb; omega), Below.heap_setCell _ _ _ _ (by show g ≠ fb; omega)])
    obtain ⟨⟨u0, _, u2, _, _, _⟩, _⟩ := cells6 hC2
    have hB2 : Below fb w (((w1.setCell ⟨fb, 3, none⟩ (.int .i64 (mi : Int))).setCell ⟨fb, 4, none⟩ (.int .i64 (sz : Int))).setCell ⟨fb, 5, none⟩ (.int .i64 (er : Int))) := by
      refine Below.setCell (Below.setCell (Below.setCell (((Below.refl fb w).drew).trans (hb1.mono (Nat.le_of_lt hfb))) ?_ _) ?_ _) ?_ _ <;> exact Nat.le_refl _
    have hK2 : ∀ b, b < w.heap.size → b ≠ fb → (((w1.setCell ⟨fb, 3, none⟩ (.int .i64 (mi : Int))).setCell ⟨fb, 4, none⟩ (.int .i64 (sz : Int))).setCell ⟨fb, 5, none⟩ (.int .i64 (er : Int))).heap[b]? = w.heap[b]? := fun b hb hne => by
      rw [Below.heap_setCell _ _ _ _ (by show b ≠ fb; exact hne), Below.heap_setCell _ _ _ _ (by show b ≠ fb; exact hne), Below.heap_setCell _ _ _ _ (by show b ≠ fb; exact hne), hb1.block b hb]
      rfl
    go_simp
    refine hK.out _ _ ⟨u0, u2, hcvO _ hown2⟩ (fun _ => ?_)
    clear hK K
    refine wpAnyH_done (by kernel_rfl) ?_ _
    refine NoPanic.normal ?_
    clear hcvO hLk
    go_wp2_with fail
    go_end0
    exact ⟨rfl, hC2, hB2, hK2⟩
end Go.Proofs.Ytddkefjcpgdomaa
