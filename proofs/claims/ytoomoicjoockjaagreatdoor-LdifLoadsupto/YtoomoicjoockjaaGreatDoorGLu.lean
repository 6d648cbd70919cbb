import Derived.Test.YtoomoicjoockjaaGreatDoorGLd
import Derived.Test.YtoomoicjoockjaaGreatDoorLdIter
namespace Go.Proofs.YtoomoicjoockjaaGreatDoor
open Go.RowKit
open LdMath

/-- The lines as a joiner has them in memory: the last one's text is kept apart. -/
def memL (L : List (Nat × List UInt8)) : List (Nat × List UInt8) := match L.getLast? with | none => [] | some p => L.dropLast ++ [(p.1, [])]
def lastT (L : List (Nat × List UInt8)) : List UInt8 := match L.getLast? with | none => [] | some p => p.2
theorem memL_nil : memL [] = [] := rfl
theorem memL_snoc (L : List (Nat × List UInt8)) (n : Nat) (t : List UInt8) : memL (L ++ [(n, t)]) = L ++ [(n, [])] := by simp [memL]
theorem lastT_snoc (L : List (Nat × List UInt8)) (n : Nat) (t : List UInt8) : lastT (L ++ [(n, t)]) = t := by simp [lastT]
theorem snoc_or (L : List (Nat × List UInt8)) : L = [] ∨ ∃ L0 n t, L = L0 ++ [(n, t)] := by
  rcases List.eq_nil_or_concat L with h | ⟨L0, p, h⟩
  · exact .inl h
  · exact .inr ⟨L0, p.1, p.2, by rw [h, List.concat_eq_append]⟩

/-- What a step of a joiner leaves alone. -/
def KeepJ (jb : Nat) (u v : Value) (w w' : World) : Prop := Below jb w w' ∧ ∀ b, b < w.heap.size → b ≠ jb → u.ownBlock ≠ some b → v.ownBlock ≠ some b → w'.heap[b]? = w.heap[b]?

set_option maxRecDepth 100000 in
set_option maxHeartbeats 1000000 in
theorem goOn_any (jb : Nat) (vl vb : Value) (t : List UInt8) (r : ByteArray) (w : World) (hC : Cells w jb [vl, vb]) (hown : Own w (jb + 1) vb t) (hl : t.length + r.size ≤ 35184372088832) :
    Calls Tryz.prog 20 #[.pointer (some ⟨jb, 0, none⟩), .string r] w fun e w' => e = .returned (.tuple #[]) ∧ ∃ vb', Cells w' jb [vl, vb'] ∧ Own w' (jb + 1) vb' (t ++ r.data.toList) ∧ KeepJ jb (.slice none 0 0) vb w w' := by
  obtain ⟨ad, n, cp, rfl⟩ := own_slice hown
  obtain ⟨c1, y1⟩ := hC 1 (by simp)
  simp only [List.getElem_cons_succ, List.getElem_cons_zero] at c1
  have hjb := hC.lt
  go_enter Tryz.func20, Tryz.ntmps20
  go_wp2_with (at_builtin; refine push_strK _ rfl _ _ rfl (jb + 1) _ t r rfl rfl hown (by omega) (by omega) ?_; intro v1 w1 hown1 hg1 hb1; obtain ⟨a1, n1, k1, rfl⟩ := own_slice hown1; have hC1 := hC.of_block (hb1.block jb (Nat.lt_succ_self _)); have c1' : w1.cell? ⟨jb, 1, none⟩ = some (.slice ad n cp) := (hC1 1 (by simp)).1; have y1' : w1.frozen? ⟨jb, 1, none⟩ = false := (hC1 1 (by simp)).2)
  go_end0
  refine ⟨rfl, _, hC1.set 1 (by simp) _, owns_same hown1 (fun g hg => Below.heap_setCell _ _ _ _ (fun e => ?_)), ?_, fun b hb hbn _ hbv => ?_⟩
  · have := (hown1.lt _ hg).1
    simp at e
    omega
  · exact (hb1.mono (Nat.le_succ _)).setCell (p := ⟨jb, 1, none⟩) (Nat.le_refl _) _
  · rw [Below.heap_setCell _ _ _ _ hbn]
    exact hg1.block b hb (fun e => hbv e.symm)

set_option maxRecDepth 100000 in
set_option maxHeartbeats 1000000 in
theorem all_nil (jb : Nat) (vl vb : Value) (w : World) (hC : Cells w jb [vl, vb]) (hL : OwnL w (jb + 1) vl []) :
    Calls Tryz.prog 22 #[.pointer (some ⟨jb, 0, none⟩)] w fun e w' => e = .returned vl ∧ w' = w := by
  obtain ⟨ad, cp, rfl⟩ : ∃ ad cp, vl = .slice ad 0 cp := by
    rcases owns_form hL with ⟨rfl, _⟩ | ⟨g, cap, rfl, _⟩
    · exact ⟨_, _, rfl⟩
    · exact ⟨_, _, rfl⟩
  obtain ⟨c0, y0⟩ := hC 0 (by simp)
  simp only [List.getElem_cons_zero] at c0
  go_enter Tryz.func22, Tryz.ntmps22
  go_wp2_with fail
  go_ret
  exact ⟨rfl, rfl⟩

set_option maxRecDepth 100000 in
set_option maxHeartbeats 1000000 in
theorem all_last (jb g cap N : Nat) (vb : Value) (L : List (Nat × List UInt8)) (hN : L.length = N) (n : Nat) (x t : List UInt8) (w : World) (hC : Cells w jb [.slice (some ⟨g, 0, none⟩) (N + 1) cap, vb]) (hL : OwnL w (jb + 1) (.slice (some ⟨g, 0, none⟩) (N + 1) cap) (L ++ [(n, x)])) (hown : Own w (jb + 1) vb t) (hn : N ≤ 16777216) :
    Calls Tryz.prog 22 #[.pointer (some ⟨jb, 0, none⟩)] w fun e w' => e = .returned (.slice (some ⟨g, 0, none⟩) (N + 1) cap) ∧ OwnL w' (jb + 1) (.slice (some ⟨g, 0, none⟩) (N + 1) cap) (L ++ [(n, t)]) ∧ Below (jb + 1) w w' ∧ ∀ b, b ≠ g → w'.heap[b]? = w.heap[b]? := by
  obtain ⟨ad, m, cp, rfl⟩ := own_slice hown
  obtain ⟨c0, y0⟩ := hC 0 (by simp)
  obtain ⟨c1, y1⟩ := hC 1 (by simp)
  simp only [List.getElem_cons_succ, List.getElem_cons_zero] at c0 c1
  have hapart : ∀ g', Value.ownBlock (.slice ad m cp) = some g' → g' ≠ g := fun g' hg' e => by
    subst e
    exact owns_apart hown hL (by decide) hg' rfl
  subst hN
  obtain ⟨ct, yt, htx⟩ := ownL_text (t := t) hL
  obtain ⟨N, hN⟩ : ∃ N, L.length = N := ⟨_, rfl⟩
  obtain ⟨K, hK⟩ : ∃ K, N + 1 = K := ⟨_, rfl⟩
  rw [hN] at c0 ct yt htx hn ⊢
  rw [hK] at c0 htx ⊢
  have k0 : (0 : Int) ≤ (N : Int) := Int.natCast_nonneg _
  have k1 : (N : Int) < (K : Int) := by omega
  have k2 : (K : Int) > 0 := by omega
  have k3 : IntKind.i64.wrap ((K : Int) - 1) = (N : Int) := by rw [IntKind.wrap_i64]; omega
  have k4 : wrap64 ((K : Int) - 1) = (N : Int) := by unfold wrap64; omega
  have hcv : (convert 51 9 (.slice ad m cp)).run Tryz.prog w.drew = .ok (.string (S t)) w.drew := own_conv (owns_same hown (fun _ _ => rfl))
  have hcv2 : (convert 51 9 (.slice ad m cp)).run Tryz.prog (w.setCell ⟨g, N * 2 + 1, none⟩ (.string (S t))).drew = .ok (.string (S t)) (w.setCell ⟨g, N * 2 + 1, none⟩ (.string (S t))).drew := own_conv (owns_same hown (fun g' hg' => Below.heap_setCell _ _ _ _ (hapart g' hg')))
  have hgb := (hL.lt _ (show Value.ownBlock (.slice (some ⟨g, 0, none⟩) (L.length + 1) cap) = some g from rfl)).1
  have hne : jb ≠ g := by omega
  have hk : Hid (jb + 1 ≤ g) := hgb
  have d0 : (w.setCell ⟨g, N * 2 + 1, none⟩ (.string (S t))).drew.cell? ⟨jb, 0, none⟩ = some (.slice (some ⟨g, 0, none⟩) K cap) := by
    rw [World.cell?_drew, World.cell?_setCell_other _ _ _ _ (by intro hh; injection hh with h1 _ _; exact hne h1.symm)]; exact c0
  have d1 : (w.setCell ⟨g, N * 2 + 1, none⟩ (.string (S t))).drew.cell? ⟨jb, 1, none⟩ = some (.slice ad m cp) := by
    rw [World.cell?_drew, World.cell?_setCell_other _ _ _ _ (by intro hh; injection hh with h1 _ _; exact hne h1.symm)]; exact c1
  have htx' : Hid (∀ w', w'.heap[g]? = (w.setCell ⟨g, N * 2 + 1, none⟩ (.string (S t))).heap[g]? → OwnL w' (jb + 1) (.slice (some ⟨g, 0, none⟩) K cap) (L ++ [(n, t)])) := htx
  clear hgb htx hapart hN hC hL hown hK
  go_enter Tryz.func22, Tryz.ntmps22
  go_upto_region 3 with fail
  go_region_held3 (fun w' => w'.cell? ⟨jb, 0, none⟩ = some (.slice (some ⟨g, 0, none⟩) K cap) ∧ w'.cell? ⟨jb, 1, none⟩ = some (.slice ad m cp) ∧ (convert 51 9 (.slice ad m cp)).run Tryz.prog w' = .ok (.string (S t)) w')
    (first | go_keep | exact ⟨d0, d1, hcv2⟩)
    (fail)
  clear hcv hcv2 c0 c1
  go_wp2_with fail
  go_ret
  refine ⟨rfl, htx'.out _ rfl, ?_, fun b hb => ?_⟩
  · exact ((Below.refl _ _).setCell (p := ⟨g, N * 2 + 1, none⟩) hk.out _).drew
  · show (w.setCell ⟨g, N * 2 + 1, none⟩ (.string (S t))).heap[b]? = _
    exact Below.heap_setCell _ _ _ _ hb

/-- What 'all' does, whatever the lines are. -/
theorem all_any (jb : Nat) (vl vb : Value) (L : List (Nat × List UInt8)) (w : World) (hC : Cells w jb [vl, vb]) (hL : OwnL w (jb + 1) vl (memL L)) (hown : Own w (jb + 1) vb (lastT L)) (hn : L.length ≤ 16777216) :
    Calls Tryz.prog 22 #[.pointer (some ⟨jb, 0, none⟩)] w fun e w' => e = .returned vl ∧ OwnL w' (jb + 1) vl L ∧ Below (jb + 1) w w' ∧ ∀ b, vl.ownBlock ≠ some b → w'.heap[b]? = w.heap[b]? := by
  rcases snoc_or L with rfl | ⟨L0, n, t, rfl⟩
  · refine (all_nil jb vl vb w hC hL).mono ?_
    rintro e w' ⟨rfl, rfl⟩
    exact ⟨rfl, hL, Below.refl _ _, fun _ _ => rfl⟩
  · rw [memL_snoc] at hL
    rw [lastT_snoc] at hown
    have hll : (L0 ++ [(n, ([] : List UInt8))]).length = L0.length + 1 := by simp
    rcases owns_form hL with ⟨_, h0⟩ | ⟨g, cap, rfl, _⟩
    · rw [hll] at h0; omega
    · rw [hll] at hC hL ⊢
      rw [List.length_append] at hn
      refine (all_last jb g cap L0.length vb L0 rfl n [] t w hC hL hown (by omega)).mono ?_
      rintro e w' ⟨rfl, h1, h2, h3⟩
      exact ⟨rfl, h1, h2, fun b hb => h3 b (fun e => hb (by rw [e]; rfl))⟩

set_option maxRecDepth 100000 in
set_option maxHeartbeats 1000000 in
theorem begin_any (jb : Nat) (vl vb : Value) (L : List (Nat × List UInt8)) (k : Nat) (s : ByteArray) (w : World) (hC : Cells w jb [vl, vb]) (hL : OwnL w (jb + 1) vl (memL L)) (hown : Own w (jb + 1) vb (lastT L)) (hn : L.length ≤ 8388608) (hs : s.size ≤ 35184372088832) :
    Calls Tryz.prog 21 #[.pointer (some ⟨jb, 0, none⟩), .int .i64 (k : Int), .string s] w fun e w' => e = .returned (.tuple #[]) ∧ ∃ vl' vb', Cells w' jb [vl', vb'] ∧ OwnL w' (jb + 1) vl' (memL (L ++ [(k, s.data.toList)])) ∧ Own w' (jb + 1) vb' (lastT (L ++ [(k, s.data.toList)])) ∧ KeepJ jb vl vb w w' := by
  rw [memL_snoc, lastT_snoc]
  obtain ⟨ad, m, cp, rfl⟩ := own_slice hown
  obtain ⟨al, ml, kl, rfl⟩ : ∃ a n c, vl = .slice a n c := by
    rcases owns_form hL with ⟨rfl, _⟩ | ⟨g, cap, rfl, _⟩
    · exact ⟨_, _, _, rfl⟩
    · exact ⟨_, _, _, rfl⟩
  have hA : Hid (Calls Tryz.prog 22 #[.pointer (some ⟨jb, 0, none⟩)] w fun e w' => e = .returned (.slice al ml kl) ∧ OwnL w' (jb + 1) (.slice al ml kl) L ∧ Below (jb + 1) w w' ∧ ∀ b, Value.ownBlock (.slice al ml kl) ≠ some b → w'.heap[b]? = w.heap[b]?) := all_any jb _ _ L w hC hL hown (by omega)
  have hapart : Hid (∀ g, Value.ownBlock (.slice ad m cp) = some g → Value.ownBlock (.slice al ml kl) ≠ some g) := fun g hg => owns_apart hown hL (by decide) hg
  have hown' : Hid (Own w (jb + 1) (.slice ad m cp) (lastT L)) := hown
  have hC' : Hid (Cells w jb [.slice al ml kl, .slice ad m cp]) := hC
  have hjb := hC.lt
  have hlj : Hid (∀ g, Value.ownBlock (.slice al ml kl) = some g → jb + 1 ≤ g ∧ g < w.heap.size) := fun g hg => hL.lt g hg
  clear hC hL hown
  go_enter Tryz.func21, Tryz.ntmps21
  go_upto_region 1 with (first | (go_at_call 22; refine hA.out.mono ?_; rintro e w1 ⟨rfl, hL1, hb1, hs1⟩; have hC1 := hC'.out.of_block (W' := w1) (hb1.block jb (Nat.lt_succ_self _))) | (at_builtin; refine push_line _ rfl _ _ rfl (jb + 1) _ L (k, []) w1.heap.size rfl rfl (World.ownsRow.alloc hL1 _) (heap_alloc_last w1 _) (by have := hb1.size; simp; omega) (by omega) ?_; intro g2 cap2 w2 hL2 hg2 hb2; have hC2 := (hC1.of_block (W' := w1.alloc (.cells #[.int .i64 (k : Int), .string ⟨#[]⟩] 67)) (Below.heap_alloc _ _ _ (Nat.lt_of_lt_of_le hjb hb1.size))).of_block (W' := w2) (hb2.block jb (Nat.lt_succ_self _)); have c0' : w2.cell? ⟨jb, 0, none⟩ = some (.slice al ml kl) := (hC2 0 (by simp)).1; have y0' : w2.frozen? ⟨jb, 0, none⟩ = false := (hC2 0 (by simp)).2))
  obtain ⟨W3, hW3⟩ : ∃ W3, w2.setCell ⟨jb, 0, none⟩ (.slice (some ⟨g2, 0, none⟩) (L.length + 1) cap2) = W3 := ⟨_, rfl⟩
  rw [hW3]
  have hC3 : Cells W3 jb [.slice (some ⟨g2, 0, none⟩) (L.length + 1) cap2, .slice ad m cp] := by rw [← hW3]; exact hC2.set 0 (by simp) _
  have hg2b := (hL2.lt _ (show Value.ownBlock (.slice (some ⟨g2, 0, none⟩) (L.length + 1) cap2) = some g2 from rfl)).1
  have hL3 : OwnL W3 (jb + 1) (.slice (some ⟨g2, 0, none⟩) (L.length + 1) cap2) (L ++ [(k, [])]) := by
    have h := hL2
    unfold OwnL at h ⊢
    rw [List.length_append] at h ⊢
    refine owns_same h (fun g hg => ?_)
    injection hg with hg
    subst hg
    rw [← hW3]
    exact Below.heap_setCell _ _ _ _ (by simp; omega)
  have hs3 : ∀ b, b < w.heap.size → b ≠ jb → Value.ownBlock (.slice al ml kl) ≠ some b → W3.heap[b]? = w.heap[b]? := fun b hb hbn hba => by
    rw [← hW3, Below.heap_setCell _ _ _ _ hbn, hg2.block b (by have := hb1.size; simp; omega) (fun e => hba e.symm), Below.heap_alloc _ _ _ (Nat.lt_of_lt_of_le hb hb1.size)]
    exact hs1 b hba
  have hown3 : Own W3 (jb + 1) (.slice ad m cp) (lastT L) := owns_same hown'.out (fun g hg => hs3 g (hown'.out.lt g hg).2 (by have := (hown'.out.lt g hg).1; omega) (hapart.out g hg))
  have hb3 : Below jb w W3 := by
    rw [← hW3]
    exact (((hb1.mono (Nat.le_succ _)).alloc (by have := hb1.size; omega) _).trans (hb2.mono (Nat.le_succ _))).setCell (p := ⟨jb, 0, none⟩) (Nat.le_refl _) _
  have hown4 := own_take hown3 0 (Nat.zero_le _)
  rw [List.take_zero] at hown4
  obtain ⟨c1, y1⟩ := hC3 1 (by simp)
  simp only [List.getElem_cons_succ, List.getElem_cons_zero] at c1
  have hH : Hid (Cells W3 jb [.slice (some ⟨g2, 0, none⟩) (L.length + 1) cap2, .slice ad m cp] ∧ OwnL W3 (jb + 1) (.slice (some ⟨g2, 0, none⟩) (L.length + 1) cap2) (L ++ [(k, [])]) ∧ Below jb w W3 ∧ ∀ b, b < w.heap.size → b ≠ jb → Value.ownBlock (.slice al ml kl) ≠ some b → W3.heap[b]? = w.heap[b]?) := ⟨hC3, hL3, hb3, hs3⟩
  have hc0 : (0 : Int) ≤ (cp : Int) := Int.natCast_nonneg _
  have hj3 : jb + 1 ≤ W3.heap.size := by have := hb3.size; omega
  clear hC3 hL3 hb3 hs3 hW3 hC2 hL2 hg2 hb2 hC1 hL1 hb1 hs1 hown3 hA hg2b c0' y0'
  go_wp2_with (at_builtin; refine push_strK _ rfl _ _ rfl (jb + 1) _ [] s rfl rfl hown4 hj3 (by simp; omega) ?_; intro v5 w5 hown5 hg5 hb5; obtain ⟨a5, n5, k5, rfl⟩ := own_slice hown5; have hC5 := hH.out.1.of_block (W' := w5) (hb5.block jb (Nat.lt_succ_self _)); have c1' : w5.cell? ⟨jb, 1, none⟩ = some (.slice ad m cp) := (hC5 1 (by simp)).1; have y1' : w5.frozen? ⟨jb, 1, none⟩ = false := (hC5 1 (by simp)).2)
  have hg5' : W3.grownBy w5 (Value.ownBlock (.slice ad 0 cp)) := hg5
  have hob : Value.ownBlock (.slice ad 0 cp) = Value.ownBlock (.slice ad m cp) := by cases ad <;> rfl
  obtain ⟨hC3, hL3, hb3, hs3⟩ := hH.out
  go_end0
  refine ⟨rfl, _, _, hC5.set 1 (by simp) _, owns_same hL3 (fun g hg => ?_), owns_same hown5 (fun g hg => ?_), ?_, fun b hb hbn hbu hbv => ?_⟩
  · have h1 := hL3.lt g hg
    rw [Below.heap_setCell _ _ _ _ (by simp; omega)]
    exact hg5'.block g h1.2 (fun e => owns_apart hL3 hown4 (by decide) hg e.symm)
  · have h1 := hown5.lt g hg
    exact Below.heap_setCell _ _ _ _ (by simp; omega)
  · exact (hb3.trans (hb5.mono (Nat.le_succ _))).setCell (p := ⟨jb, 1, none⟩) (Nat.le_refl _) _
  · rw [Below.heap_setCell _ _ _ _ hbn, hg5'.block b (Nat.lt_of_lt_of_le hb hb3.size) (fun e => hbv (by rw [← hob]; exact e.symm))]
    exact hs3 b hb hbn hbu
end Go.Proofs.YtoomoicjoockjaaGreatDoor

namespace Go.Proofs.YtoomoicjoockjaaGreatDoor
open Go.RowKit Go.Shelf
open LdMath
attribute [local go_sem] Oper.semAt_some

theorem physical_any (s : ByteArray) (w : World) : Calls Tryz.prog 17 #[.string s] w fun e w' => e = .returned (.func (.func 31) #[] #[.pointer (some ⟨w.heap.size, 0, none⟩)]) ∧ w' = w.alloc (.cells #[.string s] 9) := by
  go_enter Tryz.func17, Tryz.ntmps17
  go_wp2
  go_ret
  exact ⟨rfl, rfl⟩

/-- What unfolding gives. -/
def UnfP (PL : List (Nat × List UInt8)) (B : Nat) (W : World) (v : Value) (e l : Nat) : Prop := match ferr [] PL with | some (e', n) => v = .slice none 0 0 ∧ e = e' ∧ l = n | none => OwnL W B v (joinS PL) ∧ e = 0 ∧ l = 0
def UnfIs (b : List UInt8) (B : Nat) (W : World) (v : Value) (e l : Nat) : Prop := UnfP (phys b) B W v e l
theorem KP.refl (sb : Nat) (W : World) : KP sb W W := ⟨Nat.le_refl _, rfl, fun _ _ _ _ => rfl⟩
theorem KP.trans {sb : Nat} {A B C : World} (h : KP sb A B) (k : KP sb B C) : KP sb A C := ⟨Nat.le_trans h.1 k.1, k.2.1.trans h.2.1, fun x s p hx => (k.2.2 x s p ((h.2.2 x s p hx).trans hx)).trans (h.2.2 x s p hx)⟩

theorem toList_S (x : List UInt8) : (S x).toList = x := by rw [Lib.toList_data, S_l]

/-- Between two rounds. -/
def UnI (s : ByteArray) (r0 : Nat) (w : World) (pre : List Ln) (W : World) : Prop :=
  ferr [] (vals pre) = none ∧ W.heap[r0]? = some (.cells #[.slice none 0 0] 39 (0, 0)) ∧ W.heap[r0 + 1]? = some (.cells #[.int .i64 0, .int .i64 0] 36 (0, 0)) ∧
  (∃ vl vb, Cells W (r0 + 1 + 1) [vl, vb] ∧ OwnL W (r0 + 1 + 1 + 1) vl (memL (joinS (vals pre))) ∧ Own W (r0 + 1 + 1 + 1) vb (lastT (joinS (vals pre)))) ∧
  W.heap[r0 + 1 + 1 + 1]? = some (.cells #[.string (S (lastA [] (vals pre)))] 9 (0, 0)) ∧ W.heap[r0 + 1 + 1 + 1 + 1]? = some (.cells #[.string s] 9 (0, 0)) ∧ Below r0 w W ∧ r0 = w.heap.size ∧ pre.length ≤ 4194305
/-- Where a round has told a fault. -/
def UnX (r0 : Nat) (w : World) (c : Code) (pre : List Ln) (W : World) : Prop :=
  c = .ret ∧ (∃ pre0 x e, pre = pre0 ++ [x] ∧ ferr [] (vals pre0) = none ∧ flt (lastA [] (vals pre0)) x.1.2 = some e ∧ W.heap[r0 + 1]? = some (.cells #[.int .i64 ((e : Nat) : Int), .int .i64 (x.1.1 : Int)] 36 (0, 0))) ∧
  W.heap[r0]? = some (.cells #[.slice none 0 0] 39 (0, 0)) ∧ Below r0 w W ∧ r0 = w.heap.size

theorem unI_own (s : ByteArray) (r0 B : Nat) (w : World) (hB : r0 + 5 ≤ B) : OwnFrom B (UnI s r0 w) := by
  rintro pre A Y row ⟨i0, i1, i2, ⟨vl, vb, i3, i4, i5⟩, i6, i7, i8, i9, i10⟩ hg hr
  have ne : ∀ x, x < B → some x ≠ row := fun x hx e => by have := (hr x e.symm).1; omega
  have nc : ∀ {x cs t fz}, A.heap[x]? = some (.cells cs t fz) → some x ≠ row := fun {x cs t fz} hx e => by
    obtain ⟨_, o, ho, hc⟩ := hr x e.symm
    rw [hx] at ho
    injection ho with ho
    subst ho
    cases hc
  have bk : ∀ x, x < B → x < A.heap.size → Y.heap[x]? = A.heap[x]? := fun x hx hs => hg.block x hs (ne x hx)
  have l4 : ∀ {e k n v xs}, A.ownsRow (r0 + 1 + 1 + 1) e k v n xs → Y.ownsRow (r0 + 1 + 1 + 1) e k v n xs := fun {e k n v xs} h => owns_same h (fun g hgg => by
    obtain ⟨cs, hcs⟩ := owns_typ h hgg
    exact hg.block g (Array.getElem?_eq_some_iff.1 hcs).1 (nc hcs))
  refine ⟨i0, (bk _ (by omega) (Array.getElem?_eq_some_iff.1 i1).1).trans i1, (bk _ (by omega) (Array.getElem?_eq_some_iff.1 i2).1).trans i2, ⟨vl, vb, i3.of_block (bk _ (by omega) i3.lt), l4 i4, l4 i5⟩, (bk _ (by omega) (Array.getElem?_eq_some_iff.1 i6).1).trans i6, (bk _ (by omega) (Array.getElem?_eq_some_iff.1 i7).1).trans i7, ?_, i9, i10⟩
  exact i8.grown hg (by rw [i9]; exact i8.size) (fun k e => by have := (hr k e).1; omega)
theorem unX_own (r0 B : Nat) (w : World) (hB : r0 + 5 ≤ B) (c : Code) : OwnFrom B (UnX r0 w c) := by
  rintro pre A Y row ⟨rfl, ⟨pre0, x, e, i1, i2, i3, i4⟩, i5, i6, i7⟩ hg hr
  have ne : ∀ x, x < B → some x ≠ row := fun x hx e => by have := (hr x e.symm).1; omega
  have bk : ∀ x, x < B → x < A.heap.size → Y.heap[x]? = A.heap[x]? := fun x hx hs => hg.block x hs (ne x hx)
  refine ⟨rfl, ⟨pre0, x, e, i1, i2, i3, (bk _ (by omega) (Array.getElem?_eq_some_iff.1 i4).1).trans i4⟩, (bk _ (by omega) (Array.getElem?_eq_some_iff.1 i5).1).trans i5, ?_, i7⟩
  exact i6.grown hg (by rw [i7]; exact i6.size) (fun k e => by have := (hr k e).1; omega)
theorem kp_put {w : World} {sb : Nat} (hsb : sb < w.heap.size) (W : World) (l : Nat) (o o' : Obj) (hl : w.heap.size ≤ l) (ho : W.heap[l]? = some o) (_ : o.isCells = false) (hw : o.isWalk = false) : KP sb W (W.putObj l o') := by
  have hg := grownBy_putObj' W l o'
  refine ⟨hg.size, World.putObj_heap_other (by omega), fun x s p hx => World.putObj_heap_other (fun e => ?_)⟩
  subst e
  rw [hx] at ho
  injection ho with ho
  subst ho
  cases hw

theorem cell_cells {W : World} {b j : Nat} {v : Value} (h : W.cell? ⟨b, j, none⟩ = some v) : ∃ cs t fz, W.heap[b]? = some (.cells cs t fz) := by
  unfold World.cell? at h
  cases hb : W.heap[b]? with
  | none => simp [hb] at h
  | some o =>
    cases o with
    | cells cs t fz => exact ⟨_, _, _, rfl⟩
    | _ => simp [hb] at h
theorem tot_le : ∀ (pre : List Ln), ltot (vals pre) ≤ pre.length * 4194304 := by
  intro pre
  induction pre with
  | nil => exact Nat.le_refl _
  | cons x l ih =>
    have h1 : ltot (vals (x :: l)) = x.1.2.length + ltot (vals l) := by simp [vals, ltot]
    have h2 := x.2.2
    rw [h1, List.length_cons]
    omega
/-- A round that goes on: a joiner's step, and the line ahead. -/
theorem unI_step {s : ByteArray} {r0 B : Nat} {w W w1 : World} {pre : List Ln} {x : Ln} {vl vb vl' vb' : Value} (hI : UnI s r0 w pre W) (hc : Cells W (r0 + 1 + 1) [vl, vb]) (h4 : OwnL W (r0 + 1 + 1 + 1) vl (memL (joinS (vals pre)))) (h5 : Own W (r0 + 1 + 1 + 1) vb (lastT (joinS (vals pre))))
    (hk : KeepJ (r0 + 1 + 1) vl vb W w1) (hC : Cells w1 (r0 + 1 + 1) [vl', vb']) (hL : OwnL w1 (r0 + 1 + 1 + 1) vl' (memL (joinS (vals (pre ++ [x]))))) (hO : Own w1 (r0 + 1 + 1 + 1) vb' (lastT (joinS (vals (pre ++ [x]))))) (hf : ferr [] (vals (pre ++ [x])) = none) (hlen : pre.length < 4194305) :
    (w1.cell? ⟨r0 + 1 + 1 + 1, 0, none⟩ = some (.string (S (lastA [] (vals pre)))) ∧ w1.frozen? ⟨r0 + 1 + 1 + 1, 0, none⟩ = false) ∧
    Hid (KeepsFrom B W (w1.setCell ⟨r0 + 1 + 1 + 1, 0, none⟩ (.string (S x.1.2))) ∧ KP (r0 + 1 + 1 + 1 + 1) W (w1.setCell ⟨r0 + 1 + 1 + 1, 0, none⟩ (.string (S x.1.2))) ∧ UnI s r0 w (pre ++ [x]) (w1.setCell ⟨r0 + 1 + 1 + 1, 0, none⟩ (.string (S x.1.2)))) := by
  obtain ⟨i0, i1, i2, _, i6, i7, i8, i9, i10⟩ := hI
  have same : ∀ b cs t fz, W.heap[b]? = some (.cells cs t fz) → b ≠ r0 + 1 + 1 → t ≠ 67 → t ≠ 5 → w1.heap[b]? = W.heap[b]? := fun b cs t fz hb hne h1 h2 => by
    refine hk.2 b (Array.getElem?_eq_some_iff.1 hb).1 hne (fun e => ?_) (fun e => ?_)
    · obtain ⟨cs', hcs'⟩ := owns_typ h4 e
      rw [hb] at hcs'
      injection hcs' with hcs'
      injection hcs' with _ ht _
      exact h1 ht
    · obtain ⟨cs', hcs'⟩ := owns_typ h5 e
      rw [hb] at hcs'
      injection hcs' with hcs'
      injection hcs' with _ ht _
      exact h2 ht
  have same2 : ∀ (b : Nat) (o : Obj), W.heap[b]? = some o → o.isCells = false → w1.heap[b]? = some o := fun b o hb ho => by
    have nc : ∀ cs t fz, W.heap[b]? ≠ some (.cells cs t fz) := fun cs t fz e => by
      rw [hb] at e
      injection e with e
      subst e
      cases ho
    refine (hk.2 b (Array.getElem?_eq_some_iff.1 hb).1 (fun e => ?_) (fun e => ?_) (fun e => ?_)).trans hb
    · subst e
      obtain ⟨cs, t, fz, hcs⟩ := cell_cells (hc 0 (by simp)).1
      exact nc _ _ _ hcs
    · obtain ⟨cs', hcs'⟩ := owns_typ h4 e
      exact nc _ _ _ hcs'
    · obtain ⟨cs', hcs'⟩ := owns_typ h5 e
      exact nc _ _ _ hcs'
  have j1 := (same _ _ _ _ i1 (by omega) (by decide) (by decide)).trans i1
  have j2 := (same _ _ _ _ i2 (by omega) (by decide) (by decide)).trans i2
  have j6 := (same _ _ _ _ i6 (by omega) (by decide) (by decide)).trans i6
  have j7 := (same _ _ _ _ i7 (by omega) (by decide) (by decide)).trans i7
  have oth : ∀ b, b ≠ r0 + 1 + 1 + 1 → (w1.setCell ⟨r0 + 1 + 1 + 1, 0, none⟩ (.string (S x.1.2))).heap[b]? = w1.heap[b]? := fun b hb => Below.heap_setCell _ _ _ _ hb
  have hsz : W.heap.size ≤ (w1.setCell ⟨r0 + 1 + 1 + 1, 0, none⟩ (.string (S x.1.2))).heap.size := by have := hk.1.size; simpa using this
  refine ⟨⟨row1 j6, Go.frozen_of_row _ _ _ _ _ j6⟩, ⟨hsz, fun b o _ hb ho => ?_⟩, ⟨hsz, ?_, fun b s' p hb => ?_⟩, hf, (oth _ (by omega)).trans j1, (oth _ (by omega)).trans j2, ⟨vl', vb', hC.of_block (oth _ (by omega)), owns_same hL (fun g hg => oth g (fun e => ?_)), owns_same hO (fun g hg => oth g (fun e => ?_))⟩, ?_, (oth _ (by omega)).trans j7, ?_, i9, by simp; omega⟩
  · rw [oth b (fun e => by subst e; rw [i6] at hb; injection hb with hb; subst hb; cases ho)]
    exact same2 b o hb ho
  · rw [oth _ (by omega), j7, i7]
  · rw [oth b (fun e => by subst e; rw [i6] at hb; injection hb with hb; cases hb), hb]
    exact same2 b _ hb rfl
  · subst e
    obtain ⟨cs', hcs'⟩ := owns_typ hL hg
    rw [j6] at hcs'
    injection hcs' with hcs'
    injection hcs' with _ ht _
    exact absurd ht (by decide)
  · subst e
    obtain ⟨cs', hcs'⟩ := owns_typ hO hg
    rw [j6] at hcs'
    injection hcs' with hcs'
    injection hcs' with _ ht _
    exact absurd ht (by decide)
  · rw [vals_snoc, lastA_snoc]
    have := Go.heap_setCell_same w1 (r0 + 1 + 1 + 1) 0 _ _ (.string (S x.1.2)) j6
    rw [this]
    rfl
  · exact (i8.trans (hk.1.mono (by omega))).setCell (p := ⟨r0 + 1 + 1 + 1, 0, none⟩) (by simp; omega) _

theorem ld_one (w : World) (g : Nat) (v : Value) (ty t : TypeId) (d : TypeDesc) (hg : w.heap[g]? = some (.cells #[v] t (0, 0))) (hu : Tryz.prog.underlying ty = some d) (hd : (match d with | .struct _ | .array _ _ => true | _ => false) = false) : (loadVar ty ⟨g, 0, none⟩).run Tryz.prog w = .ok v w := by
  have hc := row1 hg
  have hA : (isAgg ty).run Tryz.prog w = .ok false w := by
    unfold isAgg
    simp only [Sem.run_bind, run_underlying hu, Result.andThen_ok]
    cases d <;> first | rfl | (simp at hd)
  simp [loadVar, hA, go_sem, hc]
/-- Two results that lie in boxes: a list, and a struct of two. -/
theorem results_two {fn : Func} {p q : Tmp} (h : fn.results = #[.cell p 39, .cell q 36]) (tmps : Array Value) (w : World) (g f : Nat) (v a b : Value) (hp : tmps.getD p undef = .pointer (some ⟨g, 0, none⟩)) (hq : tmps.getD q undef = .pointer (some ⟨f, 0, none⟩))
    (hg : w.heap[g]? = some (.cells #[v] 39 (0, 0))) (hf : w.heap[f]? = some (.cells #[a, b] 36 (0, 0))) : (results fn tmps).run Tryz.prog w = .ok (.tuple #[v, .agg #[a, b]]) w := by
  have h1 := ld_one w g v 39 _ _ hg Tryz.underlying39 rfl
  have h2 := run_loadVar_row (P := Tryz.prog) w f 36 36 #[a, b] (0, 0) _ hf Tryz.underlying36 rfl (by kernel_rfl)
  have hp' : tmps[p]?.getD undef = .pointer (some ⟨g, 0, none⟩) := by simpa using hp
  have hq' : tmps[q]?.getD undef = .pointer (some ⟨f, 0, none⟩) := by simpa using hq
  simp [results, h, hp', hq', asAddr, h1, h2]

set_option maxRecDepth 1000000 in
set_option maxHeartbeats 4000000 in
theorem unfold_any (s : ByteArray) (hs : s.size ≤ 4194304) (w : World) :
    Calls Tryz.prog 12 #[.string s] w fun e w' => ∃ v er ln, e = .returned (.tuple #[v, .agg #[.int .i64 ((er : Nat) : Int), .int .i64 ((ln : Nat) : Int)]]) ∧ UnfIs s.data.toList w.heap.size w' v er ln ∧ Below w.heap.size w w' := by
  refine (callsIn_wide (n := 3)).1 ?_
  refine callsIn_of_wp_marks Tryz.func12 rfl trivial ?_ rfl
  simp only [Tryz.ntmps12, List.size_toArray, List.length_cons, List.length_nil, Nat.reduceAdd, Nat.reduceSub, Array.replicate_succ, Array.replicate_zero, List.push_toArray, List.append_toArray, List.nil_append, List.cons_append]
  gi_wp2_with (refine ⟨trivial, ?_⟩; gi_at_call 17; refine (callsIn_wide.2 (physical_any _ _)).mono ?_; rintro e w' ⟨rfl, rfl⟩)
  obtain ⟨W0, hW0⟩ : ∃ W0, (((((w.alloc (.cells #[.slice none 0 0] 39)).alloc (.cells #[.int .i64 0, .int .i64 0] 36)).alloc (.cells #[.slice none 0 0, .slice none 0 0] 53)).alloc (.cells #[.string ⟨#[]⟩] 9)).alloc (.cells #[.string s] 9)) = W0 := ⟨_, rfl⟩
  rw [hW0]
  have hsz : W0.heap.size = w.heap.size + 5 := by rw [← hW0]; simp
  have HB0 : Below w.heap.size w W0 := by rw [← hW0]; exact (((((Below.refl _ _).alloc (Nat.le_refl _) _).alloc (by simp) _).alloc (by simp <;> omega) _).alloc (by simp <;> omega) _).alloc (by simp <;> omega) _
  have hU0 : UnI s w.heap.size w [] W0 := by
    refine ⟨rfl, ?_, ?_, ⟨.slice none 0 0, .slice none 0 0, ?_, ownL_nil _ _, own_nil _ _⟩, ?_, ?_, HB0, rfl, by simp⟩
    · rw [← hW0, Below.heap_alloc _ _ _ (by simp <;> omega), Below.heap_alloc _ _ _ (by simp <;> omega), Below.heap_alloc _ _ _ (by simp <;> omega), Below.heap_alloc _ _ _ (by simp <;> omega)]
      exact heap_alloc_last w _
    · rw [← hW0, Below.heap_alloc _ _ _ (by simp <;> omega), Below.heap_alloc _ _ _ (by simp <;> omega), Below.heap_alloc _ _ _ (by simp <;> omega)]
      have h := heap_alloc_last (w.alloc (.cells #[.slice none 0 0] 39)) (.cells #[.int .i64 0, .int .i64 0] 36)
      simp only [World.size_alloc] at h
      exact h
    · have h2 : W0.heap[w.heap.size + 1 + 1]? = some (.cells #[.slice none 0 0, .slice none 0 0] 53 (0, 0)) := by
        rw [← hW0, Below.heap_alloc _ _ _ (by simp <;> omega), Below.heap_alloc _ _ _ (by simp <;> omega)]
        have h := heap_alloc_last ((w.alloc (.cells #[.slice none 0 0] 39)).alloc (.cells #[.int .i64 0, .int .i64 0] 36)) (.cells #[.slice none 0 0, .slice none 0 0] 53)
        simp only [World.size_alloc] at h
        exact h
      intro j hj
      refine ⟨?_, Go.frozen_of_row _ _ _ _ _ h2⟩
      rw [cell_of_row W0 _ j _ _ _ h2]
      match j, hj with
      | 0, _ => rfl
      | 1, _ => rfl
    · rw [← hW0, Below.heap_alloc _ _ _ (by simp <;> omega)]
      have h := heap_alloc_last (((w.alloc (.cells #[.slice none 0 0] 39)).alloc (.cells #[.int .i64 0, .int .i64 0] 36)).alloc (.cells #[.slice none 0 0, .slice none 0 0] 53)) (.cells #[.string ⟨#[]⟩] 9)
      simp only [World.size_alloc] at h
      exact h
    · rw [← hW0]
      have h := heap_alloc_last ((((w.alloc (.cells #[.slice none 0 0] 39)).alloc (.cells #[.int .i64 0, .int .i64 0] 36)).alloc (.cells #[.slice none 0 0, .slice none 0 0] 53)).alloc (.cells #[.string ⟨#[]⟩] 9)) (.cells #[.string s] 9)
      simp only [World.size_alloc] at h
      exact h
  clear hW0
  obtain ⟨r0, hr0⟩ : ∃ r0, w.heap.size = r0 := ⟨_, rfl⟩
  rw [hr0] at hsz hU0 HB0 ⊢
  have hSb := hU0.2.2.2.2.2.1
  refine wpIn_rangeFunc_ownG_of_H rfl (by omega) (gf := 31) (lb := #[.pointer (some ⟨r0 + 1 + 1 + 1 + 1, 0, none⟩)]) rfl trivial (enters_of Tryz.func31 (by kernel_rfl) rfl) (physical_stops 2 (by omega) s hs (r0 + 1 + 1 + 1 + 1) W0 hSb)
    (fun h k => h.trans k) (kp_put (by omega)) (Below.refl _ _) (fun _ => rfl) (UnI s r0 w) (UnX r0 w) (unI_own s r0 _ w (by omega)) (unX_own r0 _ w (by omega)) hU0
    (fun x => { tmps := #[.string s, undef, .pointer (some ⟨r0, 0, none⟩), .pointer (some ⟨r0 + 1, 0, none⟩), .pointer (some ⟨r0 + 1 + 1, 0, none⟩), .pointer (some ⟨r0 + 1 + 1 + 1, 0, none⟩), .int .i64 (x.1.1 : Int), .string (S x.1.2), undef, undef, .string s, .func (.func 31) #[] #[.pointer (some ⟨r0 + 1 + 1 + 1 + 1, 0, none⟩)], .int .i64 (x.1.1 : Int), .string (S x.1.2), undef, undef, undef, undef, undef, undef, undef, undef, undef, undef, undef, undef, undef, undef, undef, undef, undef, undef, undef, undef, undef, undef, undef, undef, undef, undef, undef, undef], defers := [] })
    ?assign ?body ?done ?stop (KP.refl _)
  case assign =>
    intro l x W K hK
    gi_wp2
    exact hK
  case body =>
    rintro l pre x W hI hlt
    have hI0 := hI
    obtain ⟨i0, i1, i2, ⟨vl, vb, i3, i4, i5⟩, i6, i7, i8, i9, i10⟩ := hI
    obtain ⟨t, ht⟩ : ∃ t, x.1.2 = t := ⟨_, rfl⟩
    obtain ⟨k, hk⟩ : ∃ k, x.1.1 = k := ⟨_, rfl⟩
    obtain ⟨ah, hah⟩ : ∃ ah, lastA [] (vals pre) = ah := ⟨_, rfl⟩
    have hCut : ∀ W, Hid (Calls Tryz.prog 18 #[.string (S t), .string ⟨#[32]⟩] W fun e w' => e = .returned (.tuple #[.string (S (Lib.trimPrefix t [32])), .bool (goes t)]) ∧ w' = W) := fun W => by
      have := Tryz.strings_CutPrefix (S t) ⟨#[32]⟩ W
      rw [S_l, show (⟨#[32]⟩ : ByteArray).data.toList = [32] from rfl, pre_eq] at this
      exact this
    have hCon : ∀ W, Hid (Calls Tryz.prog 19 #[.string (S t), .string ⟨#[13]⟩] W fun e w' => e = .returned (.bool (t.contains 13)) ∧ w' = W) := fun W => by
      have := Tryz.strings_Contains_one (S t) 13 W
      rw [S_l, idx_eq] at this
      exact this
    have c0 := row1 i1
    have f0 := Go.frozen_of_row W r0 0 _ _ i1
    have c1 : W.cell? ⟨r0 + 1, 0, none⟩ = some (.int .i64 0) := by rw [cell_of_row W _ 0 _ _ _ i2]; rfl
    have c1' : W.cell? ⟨r0 + 1, 1, none⟩ = some (.int .i64 0) := by rw [cell_of_row W _ 1 _ _ _ i2]; rfl
    have f1 := Go.frozen_of_row W (r0 + 1) 0 _ _ i2
    have f1' := Go.frozen_of_row W (r0 + 1) 1 _ _ i2
    have cA := row1 i6
    rw [hah] at cA
    -- a fault, told
    have tell : ∀ e : Nat, flt ah t = some e → Hid (KeepsFrom W0.heap.size W (((W.setCell ⟨r0, 0, none⟩ (.slice none 0 0)).setCell ⟨r0 + 1, 0, none⟩ (.int .i64 (e : Int))).setCell ⟨r0 + 1, 1, none⟩ (.int .i64 (k : Int))) ∧ UnX r0 w .ret (pre ++ [x]) (((W.setCell ⟨r0, 0, none⟩ (.slice none 0 0)).setCell ⟨r0 + 1, 0, none⟩ (.int .i64 (e : Int))).setCell ⟨r0 + 1, 1, none⟩ (.int .i64 (k : Int)))) := fun e he => by
      have g1 := Go.heap_setCell_same W r0 0 _ _ (.slice none 0 0) i1
      have g2 : (W.setCell ⟨r0, 0, none⟩ (.slice none 0 0)).heap[r0 + 1]? = some (.cells #[.int .i64 0, .int .i64 0] 36 (0, 0)) := (Below.heap_setCell _ _ _ _ (by simp)).trans i2
      have g3 := Go.heap_setCell_same _ _ 1 _ _ (.int .i64 (k : Int)) (Go.heap_setCell_same _ _ 0 _ _ (.int .i64 (e : Int)) g2)
      refine ⟨(((KeepsOthers.setCell _ _ _).trans (KeepsOthers.setCell _ _ _)).trans (KeepsOthers.setCell _ _ _)).from _, rfl, ⟨pre, x, e, rfl, i0, by rw [hah, ht]; exact he, ?_⟩, ?_, ?_, i9⟩
      · rw [g3, hk]; rfl
      · rw [Below.heap_setCell _ _ _ _ (by simp), Below.heap_setCell _ _ _ _ (by simp), g1]; rfl
      · refine Below.setCell (Below.setCell (Below.setCell i8 ?_ _) ?_ _) ?_ _ <;> simp
    have hxl : t.length ≤ 4194304 := by rw [← ht]; exact x.2.2
    have hpl : pre.length ≤ 4194304 := by omega
    rw [ht, hk]
    have hKeep : Hid (UnI s r0 w pre W ∧ Cells W (r0 + 1 + 1) [vl, vb] ∧ OwnL W (r0 + 1 + 1 + 1) vl (memL (joinS (vals pre))) ∧ Own W (r0 + 1 + 1 + 1) vb (lastT (joinS (vals pre))) ∧ ferr [] (vals pre) = none ∧ pre.length ≤ 4194304 ∧ t.length ≤ 4194304) := ⟨hI0, i3, i4, i5, i0, hpl, hxl⟩
    clear i0 i1 i2 i3 i4 i5 i6 i7 i8 i9 i10 hI0 hlt hxl hpl hU0 HB0 hsz hSb
    cases hcr : t.contains 13 with
    | true =>
      rw [hcr] at hCon
      have hend := tell 70 (by unfold flt; rw [hcr]; rfl)
      clear tell
      gi_wp2_with (first | (refine ⟨trivial, ?_⟩; gi_at_call 18; refine (CallsIn.inRound l (callsIn_wide.2 (hCut _).out)).mono ?_; rintro e w' ⟨rfl, rfl⟩) | (refine ⟨trivial, ?_⟩; gi_at_call 19; refine (CallsIn.inRound l (callsIn_wide.2 (hCon _).out)).mono ?_; rintro e w' ⟨rfl, rfl⟩))
      exact hend.out
    | false =>
      rw [hcr] at hCon
      cases hgo : goes t with
      | true =>
        rw [hgo] at hCut
        by_cases hae : ah = []
        · have hend := tell 71 (by unfold flt; rw [hcr, hgo, hae]; rfl)
          rw [hae, show S [] = (⟨#[]⟩ : ByteArray) from rfl] at cA
          clear tell
          gi_wp2_with (first | (refine ⟨trivial, ?_⟩; gi_at_call 18; refine (CallsIn.inRound l (callsIn_wide.2 (hCut _).out)).mono ?_; rintro e w' ⟨rfl, rfl⟩) | (refine ⟨trivial, ?_⟩; gi_at_call 19; refine (CallsIn.inRound l (callsIn_wide.2 (hCon _).out)).mono ?_; rintro e w' ⟨rfl, rfl⟩))
          exact hend.out
        · have hflt : flt ah t = none := by
            unfold flt
            rw [hcr, hgo]
            cases ah with
            | nil => exact absurd rfl hae
            | cons a b => rfl
          have hne : (S ah).toList.isEmpty = false := by rw [toList_S]; simpa using hae
          obtain ⟨L, n0, t0, hL⟩ := joinS_goes (vals pre) t hKeep.out.2.2.2.2.1 (by rw [hah]; exact hflt) hgo
          have h4 := hKeep.out.2.2.1
          have h5 := hKeep.out.2.2.2.1
          rw [hL, memL_snoc] at h4
          rw [hL, lastT_snoc] at h5
          have hjn : joinS (vals (pre ++ [x])) = L ++ [(n0, t0 ++ t.tail)] := by rw [vals_snoc, joinS_on _ _ (by rw [ht]; exact hgo), hL, addLast_snoc, ht]
          have hfn : ferr [] (vals (pre ++ [x])) = none := by rw [vals_snoc]; exact ferr_ok _ _ hKeep.out.2.2.2.2.1 (by rw [hah, ht]; exact hflt)
          have ht0 : t0.length + (S t.tail).size ≤ 35184372088832 := by
            have h1 := (joinS_sizes (vals pre)).2 (n0, t0) (by rw [hL]; simp)
            have h2 := tot_le pre
            have h3 := hKeep.out.2.2.2.2.2
            rw [S_size, List.length_tail]
            simp only at h1
            omega
          have hG := goOn_any (r0 + 1 + 1) vl vb t0 (S t.tail) W hKeep.out.2.1 h5 ht0
          rw [← cut_eq t hgo] at hG
          have hG' : Hid (Calls Tryz.prog 20 #[.pointer (some ⟨r0 + 1 + 1, 0, none⟩), .string (S (Lib.trimPrefix t [32]))] W fun e w' => e = .returned (.tuple #[]) ∧ ∃ vb', Cells w' (r0 + 1 + 1) [vl, vb'] ∧ Own w' (r0 + 1 + 1 + 1) vb' (t0 ++ (S (Lib.trimPrefix t [32])).data.toList) ∧ KeepJ (r0 + 1 + 1) (.slice none 0 0) vb W w') := hG
          have hstep : ∀ w1 vb', Cells w1 (r0 + 1 + 1) [vl, vb'] → Own w1 (r0 + 1 + 1 + 1) vb' (t0 ++ (S (Lib.trimPrefix t [32])).data.toList) → KeepJ (r0 + 1 + 1) (.slice none 0 0) vb W w1 → _ := fun w1 vb' hC hO hk => unI_step (x := x) (B := W0.heap.size) hKeep.out.1 hKeep.out.2.1 hKeep.out.2.2.1 hKeep.out.2.2.2.1 ⟨hk.1, fun b hb hbn _ hbv => hk.2 b hb hbn (by simp [Value.ownBlock]) hbv⟩ hC
              (by rw [hjn, memL_snoc]; exact owns_same h4 (fun g hg => hk.2 g (h4.lt g hg).2 (by have := (h4.lt g hg).1; omega) (by simp [Value.ownBlock]) (owns_apart h4 h5 (by decide) hg)))
              (by rw [hjn, lastT_snoc]; rw [S_l, cut_eq t hgo] at hO; exact hO) hfn (by have := hKeep.out.2.2.2.2.2.1; omega)
          rw [ht, hah] at hstep
          have hstep' : Hid _ := hstep
          clear tell hG hKeep hstep h4 h5 hL hjn hfn ht0 hflt
          gi_wp2_with (first | (refine ⟨trivial, ?_⟩; gi_at_call 18; refine (CallsIn.inRound l (callsIn_wide.2 (hCut _).out)).mono ?_; rintro e w' ⟨rfl, rfl⟩) | (refine ⟨trivial, ?_⟩; gi_at_call 19; refine (CallsIn.inRound l (callsIn_wide.2 (hCon _).out)).mono ?_; rintro e w' ⟨rfl, rfl⟩) | (refine ⟨trivial, ?_⟩; gi_at_call 20; refine (CallsIn.inRound l (callsIn_wide.2 hG'.out)).mono ?_; rintro e w1 ⟨rfl, vb', hC1, hO1, hk1⟩; obtain ⟨⟨cA1, fA1⟩, hfin⟩ := hstep'.out w1 vb' hC1 hO1 hk1))
          exact hfin.out
      | false =>
        rw [hgo] at hCut
        have hflt : flt ah t = none := by
          unfold flt
          rw [hcr, hgo]
          rfl
        have hjn : joinS (vals (pre ++ [x])) = joinS (vals pre) ++ [(k, (S t).data.toList)] := by rw [vals_snoc, joinS_new _ _ (by rw [ht]; exact hgo), S_l, ← ht, ← hk]
        have hfn : ferr [] (vals (pre ++ [x])) = none := by rw [vals_snoc]; exact ferr_ok _ _ hKeep.out.2.2.2.2.1 (by rw [hah, ht]; exact hflt)
        have hG' : Hid (Calls Tryz.prog 21 #[.pointer (some ⟨r0 + 1 + 1, 0, none⟩), .int .i64 (k : Int), .string (S t)] W fun e w' => e = .returned (.tuple #[]) ∧ ∃ vl' vb', Cells w' (r0 + 1 + 1) [vl', vb'] ∧ OwnL w' (r0 + 1 + 1 + 1) vl' (memL (joinS (vals pre) ++ [(k, (S t).data.toList)])) ∧ Own w' (r0 + 1 + 1 + 1) vb' (lastT (joinS (vals pre) ++ [(k, (S t).data.toList)])) ∧ KeepJ (r0 + 1 + 1) vl vb W w') :=
          begin_any (r0 + 1 + 1) vl vb (joinS (vals pre)) k (S t) W hKeep.out.2.1 hKeep.out.2.2.1 hKeep.out.2.2.2.1 (by have := (joinS_sizes (vals pre)).1; rw [vals_len] at this; have := hKeep.out.2.2.2.2.2.1; omega) (by rw [S_size]; have := hKeep.out.2.2.2.2.2.2; omega)
        have hstep : ∀ w1 vl' vb', Cells w1 (r0 + 1 + 1) [vl', vb'] → OwnL w1 (r0 + 1 + 1 + 1) vl' (memL (joinS (vals pre) ++ [(k, (S t).data.toList)])) → Own w1 (r0 + 1 + 1 + 1) vb' (lastT (joinS (vals pre) ++ [(k, (S t).data.toList)])) → KeepJ (r0 + 1 + 1) vl vb W w1 → _ := fun w1 vl' vb' hC hL hO hk => unI_step (x := x) (B := W0.heap.size) hKeep.out.1 hKeep.out.2.1 hKeep.out.2.2.1 hKeep.out.2.2.2.1 hk hC (by rw [hjn]; exact hL) (by rw [hjn]; exact hO) hfn (by have := hKeep.out.2.2.2.2.2.1; omega)
        rw [ht, hah] at hstep
        have hstep' : Hid _ := hstep
        clear tell hKeep hstep hjn hfn hflt
        gi_wp2_with (first | (refine ⟨trivial, ?_⟩; gi_at_call 18; refine (CallsIn.inRound l (callsIn_wide.2 (hCut _).out)).mono ?_; rintro e w' ⟨rfl, rfl⟩) | (refine ⟨trivial, ?_⟩; gi_at_call 19; refine (CallsIn.inRound l (callsIn_wide.2 (hCon _).out)).mono ?_; rintro e w' ⟨rfl, rfl⟩) | (refine ⟨trivial, ?_⟩; gi_at_call 21; refine (CallsIn.inRound l (callsIn_wide.2 hG'.out)).mono ?_; rintro e w1 ⟨rfl, vl', vb', hC1, hL1, hO1, hk1⟩; obtain ⟨⟨cA1, fA1⟩, hfin⟩ := hstep'.out w1 vl' vb' hC1 hL1 hO1 hk1))
        exact hfin.out
  case done =>
    rintro D xs W hD hS ⟨i0, i1, i2, ⟨vl, vb, i3, i4, i5⟩, i6, i7, i8, i9, i10⟩ hK
    rw [hS] at i0 i4 i5
    have hlL : (joinS (phys s.data.toList)).length ≤ 16777216 := by
      have h1 := (joinS_sizes (phys s.data.toList)).1
      have h2 := phys_len s.data.toList
      rw [size_l] at h2
      omega
    have hA : Hid (Calls Tryz.prog 22 #[.pointer (some ⟨r0 + 1 + 1, 0, none⟩)] W fun e w' => e = .returned vl ∧ OwnL w' (r0 + 1 + 1 + 1) vl (joinS (phys s.data.toList)) ∧ Below (r0 + 1 + 1 + 1) W w' ∧ ∀ b, vl.ownBlock ≠ some b → w'.heap[b]? = W.heap[b]?) := all_any (r0 + 1 + 1) vl vb _ W i3 i4 i5 hlL
    obtain ⟨al, ml, kl, rfl⟩ : ∃ a n c, vl = .slice a n c := by
      rcases owns_form i4 with ⟨rfl, _⟩ | ⟨g, cap, rfl, _⟩
      · exact ⟨_, _, _, rfl⟩
      · exact ⟨_, _, _, rfl⟩
    have hKn : Value.ownBlock (.slice al ml kl) ≠ some D := fun e => by
      obtain ⟨cs', hcs'⟩ := owns_typ i4 e
      rw [hK] at hcs'
      injection hcs' with hcs'
      cases hcs'
    have hH : Hid (Below r0 w W ∧ W0.heap.size ≤ D ∧ W0.heap.size = r0 + 5 ∧ ferr [] (phys s.data.toList) = none ∧ W.heap[D]? = some (.deferred (some [])) ∧ Value.ownBlock (.slice al ml kl) ≠ some D) := ⟨i8, hD, hsz, i0, hK, hKn⟩
    have i1' : Hid (W.heap[r0]? = some (.cells #[.slice none 0 0] 39 (0, 0))) := i1
    have i2' : Hid (W.heap[r0 + 1]? = some (.cells #[.int .i64 0, .int .i64 0] 36 (0, 0))) := i2
    clear i0 i1 i2 i3 i4 i5 i6 i7 i8 i9 i10 hD hK hKn hlL hS hU0 HB0 hsz hSb
    gi_wp2_with (refine ⟨trivial, ?_⟩; gi_at_call 22; refine (callsIn_wide.2 hA.out).mono ?_; rintro e w1 ⟨rfl, hL1, hb1, hs1⟩; have j1 : w1.heap[r0]? = some (.cells #[.slice none 0 0] 39 (0, 0)) := (hb1.block r0 (by omega)).trans i1'.out; have j2 : w1.heap[r0 + 1]? = some (.cells #[.int .i64 0, .int .i64 0] 36 (0, 0)) := (hb1.block (r0 + 1) (by omega)).trans i2'.out; have c0 := row1 j1; have f0 := Go.frozen_of_row w1 r0 0 _ _ j1; have c1 : w1.cell? ⟨r0 + 1, 0, none⟩ = some (.int .i64 0) := (by rw [cell_of_row w1 _ 0 _ _ _ j2]; rfl); have c1' : w1.cell? ⟨r0 + 1, 1, none⟩ = some (.int .i64 0) := (by rw [cell_of_row w1 _ 1 _ _ _ j2]; rfl); have f1 := Go.frozen_of_row w1 (r0 + 1) 0 _ _ j2; have f1' := Go.frozen_of_row w1 (r0 + 1) 1 _ _ j2)
    obtain ⟨k8, kD, ksz, kf, kK, kn⟩ := hH.out
    obtain ⟨W2, hW2⟩ : ∃ W2, ((w1.setCell ⟨r0, 0, none⟩ (.slice al ml kl)).setCell ⟨r0 + 1, 0, none⟩ (.int .i64 0)).setCell ⟨r0 + 1, 1, none⟩ (.int .i64 0) = W2 := ⟨_, rfl⟩
    rw [hW2]
    have oth : ∀ b, b ≠ r0 → b ≠ r0 + 1 → W2.heap[b]? = w1.heap[b]? := fun b h1 h2 => by
      rw [← hW2, Below.heap_setCell _ _ _ _ h2, Below.heap_setCell _ _ _ _ h2, Below.heap_setCell _ _ _ _ h1]
    have hK' : W2.heap[D]? = some (.deferred (some [])) := by rw [oth D (by omega) (by omega), hs1 D kn]; exact kK
    have q1 : W2.heap[r0]? = some (.cells #[.slice al ml kl] 39 (0, 0)) := by
      rw [← hW2, Below.heap_setCell _ _ _ _ (by simp), Below.heap_setCell _ _ _ _ (by simp)]
      exact Go.heap_setCell_same w1 r0 0 _ _ _ j1
    have q2 : W2.heap[r0 + 1]? = some (.cells #[.int .i64 0, .int .i64 0] 36 (0, 0)) := by
      rw [← hW2]
      exact Go.heap_setCell_same _ _ 1 _ _ (.int .i64 0) (Go.heap_setCell_same _ _ 0 _ _ (.int .i64 0) ((Below.heap_setCell _ _ _ _ (by simp)).trans j2))
    have HB2 : Below r0 w W2 := by
      rw [← hW2]
      refine Below.setCell (Below.setCell (Below.setCell (k8.trans (hb1.mono (by omega))) ?_ _) ?_ _) ?_ _ <;> simp
    refine ⟨by simp, .inl ⟨_, _, rfl, run_takeDeferred hK', ?_⟩⟩
    have hg := grownBy_putObj' W2 D (.deferred none)
    have hn : ∀ x, x ≠ D → x < W2.heap.size → (W2.putObj D (.deferred none)).heap[x]? = W2.heap[x]? := fun x hx hl => hg.block x hl (fun e => hx (by injection e))
    refine ⟨_, results_two rfl _ _ r0 (r0 + 1) _ _ _ rfl rfl ((hn _ (by omega) (Array.getElem?_eq_some_iff.1 q1).1).trans q1) ((hn _ (by omega) (Array.getElem?_eq_some_iff.1 q2).1).trans q2), _, 0, 0, rfl, ?_, ?_⟩
    · unfold UnfIs UnfP
      rw [kf, hr0]
      refine ⟨?_, rfl, rfl⟩
      have hLb : OwnL w1 r0 (.slice al ml kl) (joinS (phys s.data.toList)) := by
        rcases hL1 with ⟨h1, ⟨h2, h3⟩ | ⟨g, cap, cur, h2, h3, h4⟩⟩
        · exact ⟨h1, Or.inl ⟨h2, h3⟩⟩
        · exact ⟨h1, Or.inr ⟨g, cap, cur, h2, by omega, h4⟩⟩
      refine owns_same hLb (fun g hgo => ?_)
      have hgl := hL1.lt g hgo
      rw [hn g (fun e => kn (by rw [← e]; exact hgo)) (by rw [← hW2]; simpa using hgl.2)]
      exact oth g (by omega) (by omega)
    · rw [hr0]
      exact HB2.grown hg (by have := HB2.size; omega) (fun k e => by injection e with e; omega)
  case stop =>
    rintro D c pre W hD hSp ⟨rfl, ⟨pre0, x, e, rfl, i2, i3, i4⟩, i5, i6, i7⟩ hK
    have hf : Hid (ferr [] (phys s.data.toList) = some (e, x.1.1)) := by
      obtain ⟨post, hpost⟩ := hSp
      unfold Hid
      rw [← hpost, vals_snoc]
      exact ferr_bad _ _ _ e i2 i3
    have hH : Hid (W0.heap.size ≤ D ∧ W0.heap.size = r0 + 5) := ⟨hD, hsz⟩
    clear hD hsz hSp i2 i3 hU0 HB0 hSb
    gi_wp2
    refine ⟨by simp, .inl ⟨_, _, rfl, run_takeDeferred hK, ?_⟩⟩
    have hg := grownBy_putObj' W D (.deferred none)
    obtain ⟨kD, ksz⟩ := hH.out
    have hn : ∀ x, x ≠ D → x < W.heap.size → (W.putObj D (.deferred none)).heap[x]? = W.heap[x]? := fun x hx hl => hg.block x hl (fun e => hx (by injection e))
    refine ⟨_, results_two rfl _ _ r0 (r0 + 1) _ _ _ rfl rfl ((hn _ (by omega) (Array.getElem?_eq_some_iff.1 i5).1).trans i5) ((hn _ (by omega) (Array.getElem?_eq_some_iff.1 i4).1).trans i4), _, e, x.1.1, rfl, ?_, ?_⟩
    · unfold UnfIs UnfP
      rw [hf.out]
      exact ⟨rfl, rfl, rfl⟩
    · rw [hr0]
      exact i6.grown hg (by have := i6.size; omega) (fun k e => by injection e with e; omega)
end Go.Proofs.YtoomoicjoockjaaGreatDoor
