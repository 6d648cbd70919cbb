import Derived.Test.YtgdinncdhjeokaaGreatDoorFLdOL
namespace Go.Proofs.YtgdinncdhjeokaaGreatDoor
open Go.RowKit
open LdMath

/-- The lines as a joiner has them in memory: the last one's text is kept apart. -/
def memL (L : List (Nat × List UInt8)) : List (Nat × List UInt8) := match L.getLast? with | none => [] | some p => L.dropLast ++ [(p.1, [])]
def lastT (L : List (Nat × List UInt8)) : List UInt8 := match L.getLast? with | none => [] | some p => p.2
theorem memL_nil : memL [] = [] := rfl
theorem memL_snoc (L : List (Nat × List UInt8)) (n : Nat) (t : List UInt8) : memL (L ++ [(n, t)]) = L ++ [(n, [])] := by simp [memL]
theorem lastT_snoc (L : List (Nat × List UInt8)) (n : Nat) (t : List UInt8) : lastT (L ++ [(n, t)]) = t := by simp [lastT]
theorem snoc_or (L : List (Nat × List UInt8)) : L = [] ∨ ∃ L0 n t, L = L0 ++ [(n, t)] := by
  rcases List.eq_nil_or_concat L with h | ⟨L0, p, h⟩
  · exact .inl h
  · exact .inr ⟨L0, p.1, p.2, by rw [h, List.concat_eq_append]⟩

/-- What a step of a joiner leaves alone. -/
def KeepJ (jb : Nat) (u v : Value) (w w' : World) : Prop := Below jb w w' ∧ ∀ b, b < w.heap.size → b ≠ jb → u.ownBlock ≠ some b → v.ownBlock ≠ some b → w'.heap[b]? = w.heap[b]?

set_option maxRecDepth 100000 in
set_option maxHeartbeats 1000000 in
theorem goOn_any (jb : Nat) (vl vb : Value) (t : List UInt8) (r : ByteArray) (w : World) (hC : Cells w jb [vl, vb]) (hown : Own w (jb + 1) vb t) (hl : t.length + r.size ≤ 35184372088832) :
    Calls Tryz.prog 34 #[.pointer (some ⟨jb, 0, none⟩), .string r] w fun e w' => e = .returned (.tuple #[]) ∧ ∃ vb', Cells w' jb [vl, vb'] ∧ Own w' (jb + 1) vb' (t ++ r.data.toList) ∧ KeepJ jb (.slice none 0 0) vb w w' := by
  obtain ⟨ad, n, cp, rfl⟩ := own_slice hown
  obtain ⟨c1, y1⟩ := hC 1 (by simp)
  simp only [List.getElem_cons_succ, List.getElem_cons_zero] at c1
  have hjb := hC.lt
  go_enter Tryz.func34, Tryz.ntmps34
  go_wp2_with (at_builtin; refine push_strK _ rfl _ _ rfl (jb + 1) _ t r rfl rfl hown (by omega) (by omega) ?_; intro v1 w1 hown1 hg1 hb1; obtain ⟨a1, n1, k1, rfl⟩ := own_slice hown1; have hC1 := hC.of_block (hb1.block jb (Nat.lt_succ_self _)); have c1' : w1.cell? ⟨jb, 1, none⟩ = some (.slice ad n cp) := (hC1 1 (by simp)).1; have y1' : w1.frozen? ⟨jb, 1, none⟩ = false := (hC1 1 (by simp)).2)
  go_end0
  refine ⟨rfl, _, hC1.set 1 (by simp) _, owns_same hown1 (fun g hg => Below.heap_setCell _ _ _ _ (fun e => ?_)), ?_, fun b hb hbn _ hbv => ?_⟩
  · have := (hown1.lt _ hg).1
    simp at e
    omega
  · exact (hb1.mono (Nat.le_succ _)).setCell (p := ⟨jb, 1, none⟩) (Nat.le_refl _) _
  · rw [Below.heap_setCell _ _ _ _ hbn]
    exact hg1.block b hb (fun e => hbv e.symm)

set_option maxRecDepth 100000 in
set_option maxHeartbeats 1000000 in
theorem all_nil (jb : Nat) (vl vb : Value) (w : World) (hC : Cells w jb [vl, vb]) (hL : OwnL w (jb + 1) vl []) :
    Calls Tryz.prog 36 #[.pointer (some ⟨jb, 0, none⟩)] w fun e w' => e = .returned vl ∧ w' = w := by
  obtain ⟨ad, cp, rfl⟩ : ∃ ad cp, vl = .slice ad 0 cp := by
    rcases owns_form hL with ⟨rfl, _⟩ | ⟨g, cap, rfl, _⟩
    · exact ⟨_, _, rfl⟩
    · exact ⟨_, _, rfl⟩
  obtain ⟨c0, y0⟩ := hC 0 (by simp)
  simp only [List.getElem_cons_zero] at c0
  go_enter Tryz.func36, Tryz.ntmps36
  go_wp2_with fail
  go_ret
  exact ⟨rfl, rfl⟩

set_option maxRecDepth 100000 in
set_option maxHeartbeats 1000000 in
theorem all_last (jb g cap N : Nat) (vb : Value) (L : List (Nat × List UInt8)) (hN : L.length = N) (n : Nat) (x t : List UInt8) (w : World) (hC : Cells w jb [.slice (some ⟨g, 0, none⟩) (N + 1) cap, vb]) (hL : OwnL w (jb + 1) (.slice (some ⟨g, 0, none⟩) (N + 1) cap) (L ++ [(n, x)])) (hown : Own w (jb + 1) vb t) (hn : N ≤ 16777216) :
    Calls Tryz.prog 36 #[.pointer (some ⟨jb, 0, none⟩)] w fun e w' => e = .returned (.slice (some ⟨g, 0, none⟩) (N + 1) cap) ∧ OwnL w' (jb + 1) (.slice (some ⟨g, 0, none⟩) (N + 1) cap) (L ++ [(n, t)]) ∧ Below (jb + 1) w w' ∧ ∀ b, b ≠ g → w'.heap[b]? = w.heap[b]? := by
  obtain ⟨ad, m, cp, rfl⟩ := own_slice hown
  obtain ⟨c0, y0⟩ := hC 0 (by simp)
  obtain ⟨c1, y1⟩ := hC 1 (by simp)
  simp only [List.getElem_cons_succ, List.getElem_cons_zero] at c0 c1
  have hapart : ∀ g', Value.ownBlock (.slice ad m cp) = some g' → g' ≠ g := fun g' hg' e => by
    subst e
    exact owns_apart hown hL (by decide) hg' rfl
  subst hN
  obtain ⟨ct, yt, htx⟩ := ownL_text (t := t) hL
  obtain ⟨N, hN⟩ : ∃ N, L.length = N := ⟨_, rfl⟩
  obtain ⟨K, hK⟩ : ∃ K, N + 1 = K := ⟨_, rfl⟩
  rw [hN] at c0 ct yt htx hn ⊢
  rw [hK] at c0 htx ⊢
  have k0 : (0 : Int) ≤ (N : Int) := Int.natCast_nonneg _
  have k1 : (N : Int) < (K : Int) := by omega
  have k2 : (K : Int) > 0 := by omega
  have k3 : IntKind.i64.wrap ((K : Int) - 1) = (N : Int) := by rw [IntKind.wrap_i64]; omega
  have k4 : wrap64 ((K : Int) - 1) = (N : Int) := by unfold wrap64; omega
  have hcv : (convert 43 9 (.slice ad m cp)).run Tryz.prog w.drew = .ok (.string (S t)) w.drew := own_conv (owns_same hown (fun _ _ => rfl))
  have hcv2 : (convert 43 9 (.slice ad m cp)).run Tryz.prog (w.setCell ⟨g, N * 2 + 1, none⟩ (.string (S t))).drew = .ok (.string (S t)) (w.setCell ⟨g, N * 2 + 1, none⟩ (.string (S t))).drew := own_conv (owns_same hown (fun g' hg' => Below.heap_setCell _ _ _ _ (hapart g' hg')))
  have hgb := (hL.lt _ (show Value.ownBlock (.slice (some ⟨g, 0, none⟩) (L.length + 1) cap) = some g from rfl)).1
  have hne : jb ≠ g := by omega
  have hk : Hid (jb + 1 ≤ g) := hgb
  have d0 : (w.setCell ⟨g, N * 2 + 1, none⟩ (.string (S t))).drew.cell? ⟨jb, 0, none⟩ = some (.slice (some ⟨g, 0, none⟩) K cap) := by
    rw [World.cell?_drew, World.cell?_setCell_other _ _ _ _ (by intro hh; injection hh with h1 _ _; exact hne h1.symm)]; exact c0
  have d1 : (w.setCell ⟨g, N * 2 + 1, none⟩ (.string (S t))).drew.cell? ⟨jb, 1, none⟩ = some (.slice ad m cp) := by
    rw [World.cell?_drew, World.cell?_setCell_other _ _ _ _ (by intro hh; injection hh with h1 _ _; exact hne h1.symm)]; exact c1
  have htx' : Hid (∀ w', w'.heap[g]? = (w.setCell ⟨g, N * 2 + 1, none⟩ (.string (S t))).heap[g]? → OwnL w' (jb + 1) (.slice (some ⟨g, 0, none⟩) K cap) (L ++ [(n, t)])) := htx
  clear hgb htx hapart hN hC hL hown hK
  go_enter Tryz.func36, Tryz.ntmps36
  go_upto_region 3 with fail
  go_region_held3 (fun w' => w'.cell? ⟨jb, 0, none⟩ = some (.slice (some ⟨g, 0, none⟩) K cap) ∧ w'.cell? ⟨jb, 1, none⟩ = some (.slice ad m cp) ∧ (convert 43 9 (.slice ad m cp)).run Tryz.prog w' = .ok (.string (S t)) w')
    (first | go_keep | exact ⟨d0, d1, hcv2⟩)
    (fail)
  clear hcv hcv2 c0 c1
  go_wp2_with fail
  go_ret
  refine ⟨rfl, htx'.out _ rfl, ?_, fun b hb => ?_⟩
  · exact ((Below.refl _ _).setCell (p := ⟨g, N * 2 + 1, none⟩) hk.out _).drew
  · show (w.setCell ⟨g, N * 2 + 1, none⟩ (.string (S t))).heap[b]? = _
    exact Below.heap_setCell _ _ _ _ hb

/-- What 'all' does, whatever the lines are. -/
theorem all_any (jb : Nat) (vl vb : Value) (L : List (Nat × List UInt8)) (w : World) (hC : Cells w jb [vl, vb]) (hL : OwnL w (jb + 1) vl (memL L)) (hown : Own w (jb + 1) vb (lastT L)) (hn : L.length ≤ 16777216) :
    Calls Tryz.prog 36 #[.pointer (some ⟨jb, 0, none⟩)] w fun e w' => e = .returned vl ∧ OwnL w' (jb + 1) vl L ∧ Below (jb + 1) w w' ∧ ∀ b, vl.ownBlock ≠ some b → w'.heap[b]? = w.heap[b]? := by
  rcases snoc_or L with rfl | ⟨L0, n, t, rfl⟩
  · refine (all_nil jb vl vb w hC hL).mono ?_
    rintro e w' ⟨rfl, rfl⟩
    exact ⟨rfl, hL, Below.refl _ _, fun _ _ => rfl⟩
  · rw [memL_snoc] at hL
    rw [lastT_snoc] at hown
    have hll : (L0 ++ [(n, ([] : List UInt8))]).length = L0.length + 1 := by simp
    rcases owns_form hL with ⟨_, h0⟩ | ⟨g, cap, rfl, _⟩
    · rw [hll] at h0; omega
    · rw [hll] at hC hL ⊢
      rw [List.length_append] at hn
      refine (all_last jb g cap L0.length vb L0 rfl n [] t w hC hL hown (by omega)).mono ?_
      rintro e w' ⟨rfl, h1, h2, h3⟩
      exact ⟨rfl, h1, h2, fun b hb => h3 b (fun e => hb (by rw [e]; rfl))⟩

set_option maxRecDepth 100000 in
set_option maxHeartbeats 1000000 in
theorem begin_any (jb : Nat) (vl vb : Value) (L : List (Nat × List UInt8)) (k : Nat) (s : ByteArray) (w : World) (hC : Cells w jb [vl, vb]) (hL : OwnL w (jb + 1) vl (memL L)) (hown : Own w (jb + 1) vb (lastT L)) (hn : L.length ≤ 8388608) (hs : s.size ≤ 35184372088832) :
    Calls Tryz.prog 35 #[.pointer (some ⟨jb, 0, none⟩), .int .i64 (k : Int), .string s] w fun e w' => e = .returned (.tuple #[]) ∧ ∃ vl' vb', Cells w' jb [vl', vb'] ∧ OwnL w' (jb + 1) vl' (memL (L ++ [(k, s.data.toList)])) ∧ Own w' (jb + 1) vb' (lastT (L ++ [(k, s.data.toList)])) ∧ KeepJ jb vl vb w w' := by
  rw [memL_snoc, lastT_snoc]
  obtain ⟨ad, m, cp, rfl⟩ := own_slice hown
  obtain ⟨al, ml, kl, rfl⟩ : ∃ a n c, vl = .slice a n c := by
    rcases owns_form hL with ⟨rfl, _⟩ | ⟨g, cap, rfl, _⟩
    · exact ⟨_, _, _, rfl⟩
    · exact ⟨_, _, _, rfl⟩
  have hA : Hid (Calls Tryz.prog 36 #[.pointer (some ⟨jb, 0, none⟩)] w fun e w' => e = .returned (.slice al ml kl) ∧ OwnL w' (jb + 1) (.slice al ml kl) L ∧ Below (jb + 1) w w' ∧ ∀ b, Value.ownBlock (.slice al ml kl) ≠ some b → w'.heap[b]? = w.heap[b]?) := all_any jb _ _ L w hC hL hown (by omega)
  have hapart : Hid (∀ g, Value.ownBlock (.slice ad m cp) = some g → Value.ownBlock (.slice al ml kl) ≠ some g) := fun g hg => owns_apart hown hL (by decide) hg
  have hown' : Hid (Own w (jb + 1) (.slice ad m cp) (lastT L)) := hown
  have hC' : Hid (Cells w jb [.slice al ml kl, .slice ad m cp]) := hC
  have hjb := hC.lt
  have hlj : Hid (∀ g, Value.ownBlock (.slice al ml kl) = some g → jb + 1 ≤ g ∧ g < w.heap.size) := fun g hg => hL.lt g hg
  clear hC hL hown
  go_enter Tryz.func35, Tryz.ntmps35
  go_upto_region 1 with (first | (go_at_call 36; refine hA.out.mono ?_; rintro e w1 ⟨rfl, hL1, hb1, hs1⟩; have hC1 := hC'.out.of_block (W' := w1) (hb1.block jb (Nat.lt_succ_self _))) | (at_builtin; refine push_line _ rfl _ _ rfl (jb + 1) _ L (k, []) w1.heap.size rfl rfl (World.ownsRow.alloc hL1 _) (heap_alloc_last w1 _) (by have := hb1.size; simp; omega) (by omega) ?_; intro g2 cap2 w2 hL2 hg2 hb2; have hC2 := (hC1.of_block (W' := w1.alloc (.cells #[.int .i64 (k : Int), .string ⟨#[]⟩] 45)) (Below.heap_alloc _ _ _ (Nat.lt_of_lt_of_le hjb hb1.size))).of_block (W' := w2) (hb2.block jb (Nat.lt_succ_self _)); have c0' : w2.cell? ⟨jb, 0, none⟩ = some (.slice al ml kl) := (hC2 0 (by simp)).1; have y0' : w2.frozen? ⟨jb, 0, none⟩ = false := (hC2 0 (by simp)).2))
  obtain ⟨W3, hW3⟩ : ∃ W3, w2.setCell ⟨jb, 0, none⟩ (.slice (some ⟨g2, 0, none⟩) (L.length + 1) cap2) = W3 := ⟨_, rfl⟩
  rw [hW3]
  have hC3 : Cells W3 jb [.slice (some ⟨g2, 0, none⟩) (L.length + 1) cap2, .slice ad m cp] := by rw [← hW3]; exact hC2.set 0 (by simp) _
  have hg2b := (hL2.lt _ (show Value.ownBlock (.slice (some ⟨g2, 0, none⟩) (L.length + 1) cap2) = some g2 from rfl)).1
  have hL3 : OwnL W3 (jb + 1) (.slice (some ⟨g2, 0, none⟩) (L.length + 1) cap2) (L ++ [(k, [])]) := by
    have h := hL2
    unfold OwnL at h ⊢
    rw [List.length_append] at h ⊢
    refine owns_same h (fun g hg => ?_)
    injection hg with hg
    subst hg
    rw [← hW3]
    exact Below.heap_setCell _ _ _ _ (by simp; omega)
  have hs3 : ∀ b, b < w.heap.size → b ≠ jb → Value.ownBlock (.slice al ml kl) ≠ some b → W3.heap[b]? = w.heap[b]? := fun b hb hbn hba => by
    rw [← hW3, Below.heap_setCell _ _ _ _ hbn, hg2.block b (by have := hb1.size; simp; omega) (fun e => hba e.symm), Below.heap_alloc _ _ _ (Nat.lt_of_lt_of_le hb hb1.size)]
    exact hs1 b hba
  have hown3 : Own W3 (jb + 1) (.slice ad m cp) (lastT L) := owns_same hown'.out (fun g hg => hs3 g (hown'.out.lt g hg).2 (by have := (hown'.out.lt g hg).1; omega) (hapart.out g hg))
  have hb3 : Below jb w W3 := by
    rw [← hW3]
    exact (((hb1.mono (Nat.le_succ _)).alloc (by have := hb1.size; omega) _).trans (hb2.mono (Nat.le_succ _))).setCell (p := ⟨jb, 0, none⟩) (Nat.le_refl _) _
  have hown4 := own_take hown3 0 (Nat.zero_le _)
  rw [List.take_zero] at hown4
  obtain ⟨c1, y1⟩ := hC3 1 (by simp)
  simp only [List.getElem_cons_succ, List.getElem_cons_zero] at c1
  have hH : Hid (Cells W3 jb [.slice (some ⟨g2, 0, none⟩) (L.length + 1) cap2, .slice ad m cp] ∧ OwnL W3 (jb + 1) (.slice (some ⟨g2, 0, none⟩) (L.length + 1) cap2) (L ++ [(k, [])]) ∧ Below jb w W3 ∧ ∀ b, b < w.heap.size → b ≠ jb → Value.ownBlock (.slice al ml kl) ≠ some b → W3.heap[b]? = w.heap[b]?) := ⟨hC3, hL3, hb3, hs3⟩
  have hc0 : (0 : Int) ≤ (cp : Int) := Int.natCast_nonneg _
  have hj3 : jb + 1 ≤ W3.heap.size := by have := hb3.size; omega
  clear hC3 hL3 hb3 hs3 hW3 hC2 hL2 hg2 hb2 hC1 hL1 hb1 hs1 hown3 hA hg2b c0' y0'
  go_wp2_with (at_builtin; refine push_strK _ rfl _ _ rfl (jb + 1) _ [] s rfl rfl hown4 hj3 (by simp; omega) ?_; intro v5 w5 hown5 hg5 hb5; obtain ⟨a5, n5, k5, rfl⟩ := own_slice hown5; have hC5 := hH.out.1.of_block (W' := w5) (hb5.block jb (Nat.lt_succ_self _)); have c1' : w5.cell? ⟨jb, 1, none⟩ = some (.slice ad m cp) := (hC5 1 (by simp)).1; have y1' : w5.frozen? ⟨jb, 1, none⟩ = false := (hC5 1 (by simp)).2)
  have hg5' : W3.grownBy w5 (Value.ownBlock (.slice ad 0 cp)) := hg5
  have hob : Value.ownBlock (.slice ad 0 cp) = Value.ownBlock (.slice ad m cp) := by cases ad <;> rfl
  obtain ⟨hC3, hL3, hb3, hs3⟩ := hH.out
  go_end0
  refine ⟨rfl, _, _, hC5.set 1 (by simp) _, owns_same hL3 (fun g hg => ?_), owns_same hown5 (fun g hg => ?_), ?_, fun b hb hbn hbu hbv => ?_⟩
  · have h1 := hL3.lt g hg
    rw [Below.heap_setCell _ _ _ _ (by simp; omega)]
    exact hg5'.block g h1.2 (fun e => owns_apart hL3 hown4 (by decide) hg e.symm)
  · have h1 := hown5.lt g hg
    exact Below.heap_setCell _ _ _ _ (by simp; omega)
  · exact (hb3.trans (hb5.mono (Nat.le_succ _))).setCell (p := ⟨jb, 1, none⟩) (Nat.le_refl _) _
  · rw [Below.heap_setCell _ _ _ _ hbn, hg5'.block b (Nat.lt_of_lt_of_le hb hb3.size) (fun e => hbv (by rw [← hob]; exact e.symm))]
    exact hs3 b hb hbn hbu
end Go.Proofs.YtgdinncdhjeokaaGreatDoor
