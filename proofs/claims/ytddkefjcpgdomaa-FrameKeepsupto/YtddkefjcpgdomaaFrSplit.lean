import Derived.Test.YtddkefjcpgdomaaFrOwn
namespace Go.Proofs.Ytddkefjcpgdomaa
open Go.RowKit
open FrMath (Hdr lb bd within Out ends cut Cut)

/-- The place in a Cut's variable. -/
def atOf (W : World) (b : Nat) : Nat := match W.cell? ⟨b, 1, none⟩ with | some v => (intOf v).toNat | none => 0
theorem atOf_of {W : World} {b : Nat} {v x : Value} {p : Nat} (h : Cells W b [v, .int .i64 (p : Int), x]) : atOf W b = p := by
  unfold atOf
  have := (h 1 (by simp)).1
  simp at this
  rw [this]
  simp [intOf]
abbrev cutL (v : Value) (p e : Nat) : List Value := [v, .int .i64 (p : Int), .int .i64 (e : Int)]
/-- What a Split leaves. -/
def cutQ (o : Out) (B : Nat) (r : Ending) (w' : World) : Prop := ∃ v, r = .returned (.agg #[v, .int .i64 (o.at_ : Int), .int .i64 (o.er : Int)]) ∧ OwnS w' B v o.ms

theorem ownS_slice {w : World} {B : Nat} {v : Value} {l : List (List UInt8)} (h : OwnS w B v l) : ∃ a n c, v = .slice a n c := by
  rcases ownS_form h with ⟨rfl, _⟩ | ⟨g, cap, rfl⟩
  · exact ⟨_, _, _, rfl⟩
  · exact ⟨_, _, _, rfl⟩
theorem cells3 {W : World} {b : Nat} {x y z : Value} (h : Cells W b [x, y, z]) :
    W.cell? ⟨b, 0, none⟩ = some x ∧ W.cell? ⟨b, 1, none⟩ = some y ∧ W.cell? ⟨b, 2, none⟩ = some z ∧ W.frozen? ⟨b, 0, none⟩ = false ∧ W.frozen? ⟨b, 1, none⟩ = false ∧ W.frozen? ⟨b, 2, none⟩ = false :=
  ⟨(h 0 (by simp)).1, (h 1 (by simp)).1, (h 2 (by simp)).1, (h 0 (by simp)).2, (h 1 (by simp)).2, (h 2 (by simp)).2⟩
theorem cells3_mk {W : World} {b : Nat} {x y z : Value} (a0 : W.cell? ⟨b, 0, none⟩ = some x) (a1 : W.cell? ⟨b, 1, none⟩ = some y) (a2 : W.cell? ⟨b, 2, none⟩ = some z) (f0 : W.frozen? ⟨b, 0, none⟩ = false) (f1 : W.frozen? ⟨b, 1, none⟩ = false) (f2 : W.frozen? ⟨b, 2, none⟩ = false) : Cells W b [x, y, z] := by
  intro j hj
  have : j = 0 ∨ j = 1 ∨ j = 2 := by simp at hj; omega
  rcases this with rfl | rfl | rfl
  · exact ⟨a0, f0⟩
  · exact ⟨a1, f1⟩
  · exact ⟨a2, f2⟩
theorem cells3_new (W : World) (x y z : Value) (t : TypeId) : Cells (W.alloc (.cells #[x, y, z] t)) W.heap.size [x, y, z] := by
  apply cells3_mk <;> simp [go_sem]

set_option maxHeartbeats 2000000 in
theorem frameSplit_any (lim : Int) (s : ByteArray) (w : World) (hm : s.size ≤ 4194304) :
    Calls Try.prog 10 #[.int .i64 lim, .string s] w fun r w' => cutQ (Cut lim s.data.toList) w.heap.size r w' ∧ Below w.heap.size w w' := by
  have hm' : Hid (s.size ≤ 4194304) := hm
  go_enter Try.func10, Try.ntmps10
  go_wp2_with fail
  go_loopw [6] (fun _ wr => ∃ (p f : Nat) (ms : List (List UInt8)) (v : Value), p ≤ s.size ∧ s.size + 1 ≤ f + p ∧ 2 * ms.length ≤ p ∧ Hid (Cut lim s.data.toList = FrMath.ahead ms p (cut lim f (s.data.toList.drop p))) ∧ OwnS wr (w.heap.size + 2) v ms ∧ Hid (Cells wr w.heap.size (cutL (.slice none 0 0) 0 0)) ∧ Hid (Cells wr (w.heap.size + 1) (cutL v p 0)) ∧ Below w.heap.size w wr) (fun _ wr => s.size - atOf wr (w.heap.size + 1))
  case atStart =>
    refine ⟨0, s.size + 1, [], .slice none 0 0, Nat.zero_le _, by omega, by simp, ?_, ownS_nil _ _, ?_, ?_, ?_⟩
    · unfold Hid FrMath.Cut; rw [FrMath.ahead_nil, size_l]; rfl
    · unfold Hid; exact (cells3_new w _ _ _ _).of_block (Below.heap_alloc _ _ _ (by simp))
    · unfold Hid; have := cells3_new (w.alloc (.cells #[.slice none 0 0, .int .i64 0, .int .i64 0] 26)) (.slice none 0 0) (.int .i64 0) (.int .i64 0) 26; simp at this; exact this
    · exact ((Below.refl _ _).alloc (Nat.le_refl _) _).alloc (by simp) _
  case round =>
    obtain ⟨p, f, ms, v, hp, hf, hl, hsp, hown, hR, hC, HB⟩ := hrel
    obtain ⟨f', rfl⟩ : ∃ f', f = f' + 1 := ⟨f - 1, by omega⟩
    have hX : Hid ((s.extract p s.size).data.toList = s.data.toList.drop p) := drop_l s p
    have hXs : (s.extract p s.size).size = s.size - p := by rw [ByteArray.size_extract]; omega
    have hLk : ∀ W, Hid (Calls Try.prog 23 #[.int .i64 lim, .string (s.extract p s.size)] W fun r w' => r = .returned (hV (FrMath.look lim (s.data.toList.drop p))) ∧ Below W.heap.size W w') := fun W => by
      have := look_any lim (s.extract p s.size) W (by omega)
      rw [hX.out] at this
      exact this
    have hdl : (s.data.toList.drop p).length = s.size - p := by rw [List.length_drop, size_l]
    obtain ⟨c0, c1, c2, y0, y1, y2⟩ := cells3 hC.out
    have p0 : (0 : Int) ≤ (p : Int) := Int.natCast_nonneg _
    have p1 : (p : Int) ≤ (s.size : Int) := Int.ofNat_le.2 hp
    by_cases hE : ends lim (s.data.toList.drop p)
    · have hres : Hid (Cut lim s.data.toList = ⟨ms, p, (FrMath.look lim (s.data.toList.drop p)).er⟩) := by
        unfold Hid; rw [hsp.out, FrMath.cut_end lim f' _ hE]; unfold FrMath.ahead; simp
      have hcs : (FrMath.look lim (s.data.toList.drop p)).er ≠ 0 ∨ ((FrMath.look lim (s.data.toList.drop p)).er = 0 ∧ s.size - p < (FrMath.look lim (s.data.toList.drop p)).sz) := by
        unfold FrMath.ends at hE
        rw [hdl] at hE
        omega
      have hres' : Hid (Cut lim s.data.toList = ⟨ms, p, (FrMath.look lim (s.data.toList.drop p)).er⟩) := hres
      generalize FrMath.look lim (s.data.toList.drop p) = h at *
      obtain ⟨mi, z, er⟩ := h
      simp only at hres hcs hres'
      clear hsp hE hf hl hdl hres
      have nC : w.heap.size + 1 < wr.heap.size := hC.out.lt
      obtain ⟨ad, ln, cp, rfl⟩ := ownS_slice hown
      rcases hcs with h1 | ⟨rfl, h1⟩
      · have d1 : ((er : Int) != 0) = true := by simp; omega
        clear h1
        go_wp2_with fail
        refine (hLk _).out.mono ?_
        rintro r w1 ⟨rfl, hb1⟩
        have n1 : wr.heap.size ≤ w1.heap.size := hb1.size
        have n2 : w.heap.size + 1 < w1.heap.size := by omega
        have n3 : w.heap.size < w1.heap.size := by omega
        obtain ⟨a0, a1, a2, x0, x1, x2⟩ := cells3 (hC.out.of_block (hb1.block _ nC))
        obtain ⟨b0, b1, b2, v0, v1, v2⟩ := cells3 (hR.out.of_block (hb1.block w.heap.size (by omega)))
        have HB1 : Below w.heap.size w w1 := HB.trans (hb1.mono HB.size)
        have hown1 : Hid (OwnS w1 (w.heap.size + 2) (.slice ad ln cp) ms) := ownS_below hown hb1
        clear hb1 HB hown hC hR c0 c1 c2 y0 y1 y2 n1 nC
        go_wp2_with fail
        refine bodyPost_ret_by (v := .agg #[.slice ad ln cp, .int .i64 (p : Int), .int .i64 (er : Int)]) ?_ rfl ⟨⟨.slice ad ln cp, ?_, ?_⟩, ?_⟩
        · simp [results, Try.results10, go_sem, b0, b1, b2, n3]
        · rw [hres'.out]
        · rw [hres'.out]
          refine ownS_base (ownS_block hown1.out (fun g hg hg2 => ?_)) (by omega : w.heap.size ≤ w.heap.size + 2)
          repeat first
            | rw [Below.heap_setCell _ _ _ _ (by show g ≠ w.heap.size; omega)]
            | rw [Below.heap_setCell _ _ _ _ (by show g ≠ w.heap.size + 1; omega)]
            | rw [Below.heap_alloc _ _ _ (by first | omega | (simp; omega))]
        · repeat' first
            | exact HB1
            | refine Below.setCell ?_ (by simp) _
            | refine Below.alloc ?_ (by first | omega | (simp; omega)) _
      · clear hm
        go_wp2_with fail
        refine (hLk _).out.mono ?_
        rintro r w1 ⟨rfl, hb1⟩
        have n1 : wr.heap.size ≤ w1.heap.size := hb1.size
        have n2 : w.heap.size + 1 < w1.heap.size := by omega
        have n3 : w.heap.size < w1.heap.size := by omega
        obtain ⟨a0, a1, a2, x0, x1, x2⟩ := cells3 (hC.out.of_block (hb1.block _ nC))
        obtain ⟨b0, b1, b2, v0, v1, v2⟩ := cells3 (hR.out.of_block (hb1.block w.heap.size (by omega)))
        have HB1 : Below w.heap.size w w1 := HB.trans (hb1.mono HB.size)
        have hown1 : Hid (OwnS w1 (w.heap.size + 2) (.slice ad ln cp) ms) := ownS_below hown hb1
        clear hb1 HB hown hC hR c0 c1 c2 y0 y1 y2 n1 nC
        go_wp2_with fail
        refine bodyPost_ret_by (v := .agg #[.slice ad ln cp, .int .i64 (p : Int), .int .i64 0]) ?_ rfl ⟨⟨.slice ad ln cp, ?_, ?_⟩, ?_⟩
        · simp [results, Try.results10, go_sem, b0, b1, b2, n3]
        · rw [hres'.out]; rfl
        · rw [hres'.out]
          refine ownS_base (ownS_block hown1.out (fun g hg hg2 => ?_)) (by omega : w.heap.size ≤ w.heap.size + 2)
          repeat first
            | rw [Below.heap_setCell _ _ _ _ (by show g ≠ w.heap.size; omega)]
            | rw [Below.heap_setCell _ _ _ _ (by show g ≠ w.heap.size + 1; omega)]
            | rw [Below.heap_alloc _ _ _ (by first | omega | (simp; omega))]
        · repeat' first
            | exact HB1
            | refine Below.setCell ?_ (by simp) _
            | refine Below.alloc ?_ (by first | omega | (simp; omega)) _
    · obtain ⟨k1, k2, k3, k4⟩ := FrMath.on_ok lim _ hE
      obtain ⟨m, hmm⟩ : ∃ m, (s.data.toList.drop p).take (FrMath.look lim (s.data.toList.drop p)).sz = m := ⟨_, rfl⟩
      have hnext : Hid (Cut lim s.data.toList = FrMath.ahead (ms ++ [m]) (p + (FrMath.look lim (s.data.toList.drop p)).sz) (cut lim f' (s.data.toList.drop (p + (FrMath.look lim (s.data.toList.drop p)).sz)))) := by
        unfold Hid; rw [hsp.out, FrMath.cut_on lim f' _ hE, FrMath.ahead_snoc, hmm, List.drop_drop]
      have hel : Hid ((s.extract p s.size).extract 0 (FrMath.look lim (s.data.toList.drop p)).sz = S m) := by
        unfold Hid; apply S_eq; rw [take_l, hX.out, hmm]
      generalize hh : FrMath.look lim (s.data.toList.drop p) = h at *
      obtain ⟨mi, z, er⟩ := h
      simp only at k1 k2 k3 k4 hel hnext
      subst k1 k4
      rw [hdl] at k2
      obtain ⟨P, hP⟩ : ∃ P, p + z = P := ⟨_, rfl⟩
      rw [hP] at hnext
      have hPw : (p : Int) + (z : Int) = (P : Int) := by omega
      have hP1 : Hid (P ≤ s.size) := by unfold Hid; omega
      have hf2 : Hid (s.size + 1 ≤ f' + P) := by unfold Hid; omega
      have hlen2 : Hid (2 * (ms ++ [m]).length ≤ P) := by unfold Hid; rw [List.length_append]; simp; omega
      have hpP : Hid (s.size - P < s.size - p) := by unfold Hid; omega
      have hl2 : Hid (ms.length ≤ 4194304) := by unfold Hid; omega
      have hzz : ¬ s.size - p < z := by omega
      have hzz2 : z ≤ s.size - p := by omega
      have z0 : (0 : Int) ≤ (z : Int) := Int.natCast_nonneg _
      have z1 : (z : Int) ≤ ((s.extract p s.size).size : Int) := by rw [hXs]; omega
      obtain ⟨X, hXX⟩ : ∃ X, (s.extract p s.size).extract 0 z = X := ⟨_, rfl⟩
      rw [hXX] at hel
      clear hP k2 k3 hf hl hmm hh hE hdl
      go_upto_region 7 with (go_at_call 23; refine (hLk _).out.mono ?_; rintro r w1 ⟨rfl, hb1⟩)
      have n1 : wr.heap.size ≤ w1.heap.size := hb1.size
      have nC : w.heap.size + 1 < wr.heap.size := hC.out.lt
      have hownW : OwnS (w1.alloc (.cells #[.int .i64 0, .int .i64 (z : Int), .int .i64 0] 58)).drew (w.heap.size + 2) v ms := World.ownsRow.drew (World.ownsRow.alloc (ownS_below hown hb1) _)
      have hne : v.ownBlock ≠ some w1.heap.size := fun hk => by have := ((ownS_below hown hb1).lt _ hk).2; omega
      have eW : ∀ b, b < w.heap.size + 2 → (w1.alloc (.cells #[.int .i64 0, .int .i64 (z : Int), .int .i64 0] 58)).drew.heap[b]? = wr.heap[b]? := fun b hb => by
        show (w1.alloc _).heap[b]? = _
        rw [Below.heap_alloc _ _ _ (by omega), hb1.block b (by omega)]
      have glW : (w1.alloc (.cells #[.int .i64 0, .int .i64 (z : Int), .int .i64 0] 58)).drew.cell? ⟨w.heap.size + 1, 0, none⟩ = some v := by rw [World.cell?_of_block (w := wr) (eW _ (by show w.heap.size + 1 < w.heap.size + 2; omega))]; exact c0
      have hSW : (w1.alloc (.cells #[.int .i64 0, .int .i64 (z : Int), .int .i64 0] 58)).drew.cell? ⟨w1.heap.size, 1, none⟩ = some (.int .i64 (z : Int)) := by simp [go_sem]
      have nW : (w1.alloc (.cells #[.int .i64 0, .int .i64 (z : Int), .int .i64 0] 58)).drew.heap.size = w1.heap.size + 1 := by simp
      have hPw' : Hid ((p : Int) + (z : Int) = (P : Int)) := hPw
      clear hPw
      have HBW : Below w.heap.size w (w1.alloc (.cells #[.int .i64 0, .int .i64 (z : Int), .int .i64 0] 58)).drew := ((HB.trans (hb1.mono HB.size)).alloc (by omega) _).drew
      refine wp_region_noPanic ?_
      refine wp_region_held_drew (S := fun W => W.cell? ⟨w1.heap.size, 1, none⟩ = some (.int .i64 (z : Int))) (by kernel_rfl) hSW (fun _ => ?_)
      generalize (w1.alloc (.cells #[.int .i64 0, .int .i64 (z : Int), .int .i64 0] 58)).drew = W0 at *
      refine wpAnyH_take (i := 0) (v := ?va1) (by simp only [List.getElem?_toArray, List.getElem?_cons_zero]; exact rfl) (by kernel_rfl) (by kernel_rfl) (by kernel_rfl) (fun _ _ _ h => h) (Or.inl ⟨by rfl, ?ya1⟩) hSW ?ra1
      case ya1 =>
        intro w' hS
        go_simp
        try with_reducible rfl
      case ra1 =>
      simp only [Act.put, List.setIfInBounds_toArray, List.set_cons_zero, List.set_cons_succ]
      refine wpAnyH_take (i := 2) (v := ?va2) (by simp only [List.getElem?_toArray, List.getElem?_cons_zero, List.getElem?_cons_succ]; exact rfl) (by kernel_rfl) (by kernel_rfl) (by kernel_rfl) (fun _ _ _ h => h) (Or.inl ⟨by rfl, ?ya2⟩) hSW ?ra2
      case ya2 =>
        intro w' hS
        go_simp
        try with_reducible rfl
      case ra2 =>
      simp only [Act.put, List.setIfInBounds_toArray, List.set_cons_zero, List.set_cons_succ]
      refine wpAnyH_take (i := 3) (v := ?va3) (by simp only [List.getElem?_toArray, List.getElem?_cons_zero, List.getElem?_cons_succ]; exact rfl) (by kernel_rfl) (by kernel_rfl) (by kernel_rfl) (fun _ _ _ h => h) (Or.inl ⟨by rfl, ?ya3⟩) hSW ?ra3
      case ya3 =>
        intro w' hS
        go_simp
        try with_reducible rfl
      case ra3 =>
      simp only [Act.put, List.setIfInBounds_toArray, List.set_cons_zero, List.set_cons_succ]
      refine wpAnyH_take (i := 4) (v := ?va4) (by simp only [List.getElem?_toArray, List.getElem?_cons_zero, List.getElem?_cons_succ]; exact rfl) (by kernel_rfl) (by kernel_rfl) (by kernel_rfl) (fun _ _ _ h => h) (Or.inl ⟨by rfl, ?ya4⟩) hSW ?ra4
      case ya4 =>
        intro w' hS
        go_simp
        try with_reducible rfl
      case ra4 =>
      simp only [Act.put, List.setIfInBounds_toArray, List.set_cons_zero, List.set_cons_succ]
      refine wpAnyH_take (i := 5) (v := ?va5) (by simp only [List.getElem?_toArray, List.getElem?_cons_zero, List.getElem?_cons_succ]; exact rfl) (by kernel_rfl) (by kernel_rfl) (by kernel_rfl) (fun _ _ _ h => h) (Or.inl ⟨by rfl, ?ya5⟩) hSW ?ra5
      case ya5 =>
        intro w' hS
        go_simp
        try with_reducible rfl
      case ra5 =>
      simp only [Act.put, List.setIfInBounds_toArray, List.set_cons_zero, List.set_cons_succ]
      refine wpAnyH_ready (rs := [1, 6]) (by kernel_rfl) (by simp) ?_
      refine AllReadyH.cons (by simp only [List.getElem?_toArray, List.getElem?_cons_zero, List.getElem?_cons_succ]; exact rfl) (fun K hK => ?_) (AllReadyH.cons (by simp only [List.getElem?_toArray, List.getElem?_cons_zero, List.getElem?_cons_succ]; exact rfl) (fun K hK => ?_) AllReadyH.nil)
      · go_simp
        refine hK.out _ _ hSW (fun _ => ?_)
        clear hK K
        refine wpAnyH_ready (rs := [6]) (by kernel_rfl) (by simp) ?_
        refine AllReadyH.cons (by simp only [List.getElem?_toArray, List.getElem?_cons_zero, List.getElem?_cons_succ]; exact rfl) (fun K hK => ?_) AllReadyH.nil
        go_simp
        have hSa : (W0.alloc (.cells #[.string X] 9)).cell? ⟨w1.heap.size, 1, none⟩ = some (.int .i64 (z : Int)) := by rw [World.cell?_alloc_past _ _ _ (by omega)]; exact hSW
        have gla : (W0.alloc (.cells #[.string X] 9)).cell? ⟨w.heap.size + 1, 0, none⟩ = some v := by rw [World.cell?_alloc_past _ _ _ (by omega)]; exact glW
        refine hK.out _ _ hSa (fun _ => ?_)
        clear hK K
        refine wpAnyH_ready (rs := [7]) (by kernel_rfl) (by simp) ?_
        refine AllReadyH.cons (by simp only [List.getElem?_toArray, List.getElem?_cons_zero, List.getElem?_cons_succ]; exact rfl) (fun K hK => ?_) AllReadyH.nil
        refine step_str _ (by rfl) _ _ (by rfl) (w.heap.size + 2) _ ms m _ (by rfl) (by rfl) ?_ ?_ ?_ hl2.out ?_
        · exact World.ownsRow.alloc hownW _
        · rw [← hel.out, ← nW]; exact heap_alloc_new _ _
        · simp; omega
        intro g2 cap2 w4 hown4 hgrow1 hb4
        have m4 : w1.heap.size + 1 ≤ w4.heap.size := by have := hb4.size; simp at this; omega
        have e4 : ∀ b, b < w.heap.size + 2 → w4.heap[b]? = wr.heap[b]? := fun b hb => by
          rw [hb4.block b hb, Below.heap_alloc _ _ _ (by omega)]
          exact eW b hb
        have hC4 : Cells w4 (w.heap.size + 1) (cutL v p 0) := hC.out.of_block (e4 _ (by omega))
        have hR4 : Cells w4 w.heap.size (cutL (.slice none 0 0) 0 0) := hR.out.of_block (e4 _ (by omega))
        obtain ⟨d0, d1, d2, x0, x1, x2⟩ := cells3 hC4
        have hS4 : w4.cell? ⟨w1.heap.size, 1, none⟩ = some (.int .i64 (z : Int)) := by rw [World.cell?_of_block (w := W0.alloc (.cells #[.string X] 9)) (hgrow1.block w1.heap.size (by simp; omega) (by intro hh; exact hne hh.symm))]; exact hSa
        refine hK.out _ _ hS4 (fun _ => ?_)
        clear hK K
        refine wpAnyH_take (i := 8) (v := ?va6) (by simp only [List.getElem?_toArray, List.getElem?_cons_zero, List.getElem?_cons_succ]; exact rfl) (by kernel_rfl) (by kernel_rfl) (by kernel_rfl) (fun _ _ _ h => h) (Or.inl ⟨by rfl, ?ya6⟩) hS4 ?ra6
        case ya6 =>
          intro w' hS
          go_simp
          try with_reducible rfl
        case ra6 =>
        simp only [Act.put, List.setIfInBounds_toArray, List.set_cons_zero, List.set_cons_succ]
        refine wpAnyH_ready (rs := [9]) (by kernel_rfl) (by simp) ?_
        refine AllReadyH.cons (by simp only [List.getElem?_toArray, List.getElem?_cons_zero, List.getElem?_cons_succ]; exact rfl) (fun K hK => ?_) AllReadyH.nil
        go_simp
        have hS5 : (w4.setCell ⟨w.heap.size + 1, 0, none⟩ (.slice (some ⟨g2, 0, none⟩) (ms.length + 1) cap2)).cell? ⟨w1.heap.size, 1, none⟩ = some (.int .i64 (z : Int)) := by rw [World.cell?_setCell_other _ _ _ _ (by intro hh; injection hh with h1 _ _; omega)]; exact hS4
        refine hK.out _ _ hS5 (fun _ => ?_)
        clear hK K
        refine wpAnyH_done (by kernel_rfl) ?_ _
        refine NoPanic.normal ?_
        have hC5 : Cells (w4.setCell ⟨w.heap.size + 1, 0, none⟩ (.slice (some ⟨g2, 0, none⟩) (ms.length + 1) cap2)) (w.heap.size + 1) (cutL (.slice (some ⟨g2, 0, none⟩) (ms.length + 1) cap2) p 0) := hC4.set 0 (by simp) _
        have hC6 : Hid (Cells ((w4.setCell ⟨w.heap.size + 1, 0, none⟩ (.slice (some ⟨g2, 0, none⟩) (ms.length + 1) cap2)).setCell ⟨w.heap.size + 1, 1, none⟩ (.int .i64 (P : Int))) (w.heap.size + 1) (cutL (.slice (some ⟨g2, 0, none⟩) (ms.length + 1) cap2) P 0)) := hC5.set 1 (by simp) _
        have hR6 : Hid (Cells ((w4.setCell ⟨w.heap.size + 1, 0, none⟩ (.slice (some ⟨g2, 0, none⟩) (ms.length + 1) cap2)).setCell ⟨w.heap.size + 1, 1, none⟩ (.int .i64 (P : Int))) w.heap.size (cutL (.slice none 0 0) 0 0)) := hR4.of_block (by rw [Below.heap_setCell _ _ _ _ (by show w.heap.size ≠ w.heap.size + 1; omega), Below.heap_setCell _ _ _ _ (by show w.heap.size ≠ w.heap.size + 1; omega)])
        have hown6 : Hid (OwnS ((w4.setCell ⟨w.heap.size + 1, 0, none⟩ (.slice (some ⟨g2, 0, none⟩) (ms.length + 1) cap2)).setCell ⟨w.heap.size + 1, 1, none⟩ (.int .i64 (P : Int))) (w.heap.size + 2) (.slice (some ⟨g2, 0, none⟩) (ms.length + 1) cap2) (ms ++ [m])) := by
          unfold Hid
          exact ownS_block hown4 (fun g hg _ => by rw [Below.heap_setCell _ _ _ _ (by show g ≠ w.heap.size + 1; omega), Below.heap_setCell _ _ _ _ (by show g ≠ w.heap.size + 1; omega)])
        have HB6 : Hid (Below w.heap.size w ((w4.setCell ⟨w.heap.size + 1, 0, none⟩ (.slice (some ⟨g2, 0, none⟩) (ms.length + 1) cap2)).setCell ⟨w.heap.size + 1, 1, none⟩ (.int .i64 (P : Int)))) := by
          unfold Hid
          have hx : Below w.heap.size w w4 := HBW.trans (((Below.refl _ _).alloc (by omega) _).trans (hb4.mono (by omega)))
          refine Below.setCell (Below.setCell hx ?_ _) ?_ _ <;> exact Nat.le_succ _
        have hM6 : Hid (s.size - atOf ((w4.setCell ⟨w.heap.size + 1, 0, none⟩ (.slice (some ⟨g2, 0, none⟩) (ms.length + 1) cap2)).setCell ⟨w.heap.size + 1, 1, none⟩ (.int .i64 (P : Int))) (w.heap.size + 1) < s.size - atOf wr (w.heap.size + 1)) := by
          unfold Hid
          rw [atOf_of hC6.out, atOf_of hC.out]
          exact hpP.out
        obtain ⟨z0, z1, z2, t0, t1, t2⟩ := cells3 hC5
        clear hC5 hC4 hR4 hown4 hb4 e4 hgrow1 hC hR hown hsp HBW eW
        go_wp2_with fail
        go_roundw
        case rel => rw [hPw'.out]; exact ⟨P, f', ms ++ [m], (.slice (some ⟨g2, 0, none⟩) (ms.length + 1) cap2), hP1.out, hf2.out, hlen2.out, hnext, hown6.out, hR6, hC6, HB6.out⟩
        case measure => rw [hPw'.out]; exact hM6.out
      · go_simp
        have hSa : (W0.alloc (.cells #[.string X] 9)).cell? ⟨w1.heap.size, 1, none⟩ = some (.int .i64 (z : Int)) := by rw [World.cell?_alloc_past _ _ _ (by omega)]; exact hSW
        have gla : (W0.alloc (.cells #[.string X] 9)).cell? ⟨w.heap.size + 1, 0, none⟩ = some v := by rw [World.cell?_alloc_past _ _ _ (by omega)]; exact glW
        refine hK.out _ _ hSa (fun _ => ?_)
        clear hK K
        refine wpAnyH_ready (rs := [1]) (by kernel_rfl) (by simp) ?_
        refine AllReadyH.cons (by simp only [List.getElem?_toArray, List.getElem?_cons_zero, List.getElem?_cons_succ]; exact rfl) (fun K hK => ?_) AllReadyH.nil
        go_simp
        refine hK.out _ _ hSa (fun _ => ?_)
        clear hK K
        refine wpAnyH_ready (rs := [7]) (by kernel_rfl) (by simp) ?_
        refine AllReadyH.cons (by simp only [List.getElem?_toArray, List.getElem?_cons_zero, List.getElem?_cons_succ]; exact rfl) (fun K hK => ?_) AllReadyH.nil
        refine step_str _ (by rfl) _ _ (by rfl) (w.heap.size + 2) _ ms m _ (by rfl) (by rfl) ?_ ?_ ?_ hl2.out ?_
        · exact World.ownsRow.alloc hownW _
        · rw [← hel.out, ← nW]; exact heap_alloc_new _ _
        · simp; omega
        intro g2 cap2 w4 hown4 hgrow1 hb4
        have m4 : w1.heap.size + 1 ≤ w4.heap.size := by have := hb4.size; simp at this; omega
        have e4 : ∀ b, b < w.heap.size + 2 → w4.heap[b]? = wr.heap[b]? := fun b hb => by
          rw [hb4.block b hb, Below.heap_alloc _ _ _ (by omega)]
          exact eW b hb
        have hC4 : Cells w4 (w.heap.size + 1) (cutL v p 0) := hC.out.of_block (e4 _ (by omega))
        have hR4 : Cells w4 w.heap.size (cutL (.slice none 0 0) 0 0) := hR.out.of_block (e4 _ (by omega))
        obtain ⟨d0, d1, d2, x0, x1, x2⟩ := cells3 hC4
        have hS4 : w4.cell? ⟨w1.heap.size, 1, none⟩ = some (.int .i64 (z : Int)) := by rw [World.cell?_of_block (w := W0.alloc (.cells #[.string X] 9)) (hgrow1.block w1.heap.size (by simp; omega) (by intro hh; exact hne hh.symm))]; exact hSa
        refine hK.out _ _ hS4 (fun _ => ?_)
        clear hK K
        refine wpAnyH_take (i := 8) (v := ?va7) (by simp only [List.getElem?_toArray, List.getElem?_cons_zero, List.getElem?_cons_succ]; exact rfl) (by kernel_rfl) (by kernel_rfl) (by kernel_rfl) (fun _ _ _ h => h) (Or.inl ⟨by rfl, ?ya7⟩) hS4 ?ra7
        case ya7 =>
          intro w' hS
          go_simp
          try with_reducible rfl
        case ra7 =>
        simp only [Act.put, List.setIfInBounds_toArray, List.set_cons_zero, List.set_cons_succ]
        refine wpAnyH_ready (rs := [9]) (by kernel_rfl) (by simp) ?_
        refine AllReadyH.cons (by simp only [List.getElem?_toArray, List.getElem?_cons_zero, List.getElem?_cons_succ]; exact rfl) (fun K hK => ?_) AllReadyH.nil
        go_simp
        have hS5 : (w4.setCell ⟨w.heap.size + 1, 0, none⟩ (.slice (some ⟨g2, 0, none⟩) (ms.length + 1) cap2)).cell? ⟨w1.heap.size, 1, none⟩ = some (.int .i64 (z : Int)) := by rw [World.cell?_setCell_other _ _ _ _ (by intro hh; injection hh with h1 _ _; omega)]; exact hS4
        refine hK.out _ _ hS5 (fun _ => ?_)
        clear hK K
        refine wpAnyH_done (by kernel_rfl) ?_ _
        refine NoPanic.normal ?_
        have hC5 : Cells (w4.setCell ⟨w.heap.size + 1, 0, none⟩ (.slice (some ⟨g2, 0, none⟩) (ms.length + 1) cap2)) (w.heap.size + 1) (cutL (.slice (some ⟨g2, 0, none⟩) (ms.length + 1) cap2) p 0) := hC4.set 0 (by simp) _
        have hC6 : Hid (Cells ((w4.setCell ⟨w.heap.size + 1, 0, none⟩ (.slice (some ⟨g2, 0, none⟩) (ms.length + 1) cap2)).setCell ⟨w.heap.size + 1, 1, none⟩ (.int .i64 (P : Int))) (w.heap.size + 1) (cutL (.slice (some ⟨g2, 0, none⟩) (ms.length + 1) cap2) P 0)) := hC5.set 1 (by simp) _
        have hR6 : Hid (Cells ((w4.setCell ⟨w.heap.size + 1, 0, none⟩ (.slice (some ⟨g2, 0, none⟩) (ms.length + 1) cap2)).setCell ⟨w.heap.size + 1, 1, none⟩ (.int .i64 (P : Int))) w.heap.size (cutL (.slice none 0 0) 0 0)) := hR4.of_block (by rw [Below.heap_setCell _ _ _ _ (by show w.heap.size ≠ w.heap.size + 1; omega), Below.heap_setCell _ _ _ _ (by show w.heap.size ≠ w.heap.size + 1; omega)])
        have hown6 : Hid (OwnS ((w4.setCell ⟨w.heap.size + 1, 0, none⟩ (.slice (some ⟨g2, 0, none⟩) (ms.length + 1) cap2)).setCell ⟨w.heap.size + 1, 1, none⟩ (.int .i64 (P : Int))) (w.heap.size + 2) (.slice (some ⟨g2, 0, none⟩) (ms.length + 1) cap2) (ms ++ [m])) := by
          unfold Hid
          exact ownS_block hown4 (fun g hg _ => by rw [Below.heap_setCell _ _ _ _ (by show g ≠ w.heap.size + 1; omega), Below.heap_setCell _ _ _ _ (by show g ≠ w.heap.size + 1; omega)])
        have HB6 : Hid (Below w.heap.size w ((w4.setCell ⟨w.heap.size + 1, 0, none⟩ (.slice (some ⟨g2, 0, none⟩) (ms.length + 1) cap2)).setCell ⟨w.heap.size + 1, 1, none⟩ (.int .i64 (P : Int)))) := by
          unfold Hid
          have hx : Below w.heap.size w w4 := HBW.trans (((Below.refl _ _).alloc (by omega) _).trans (hb4.mono (by omega)))
          refine Below.setCell (Below.setCell hx ?_ _) ?_ _ <;> exact Nat.le_succ _
        have hM6 : Hid (s.size - atOf ((w4.setCell ⟨w.heap.size + 1, 0, none⟩ (.slice (some ⟨g2, 0, none⟩) (ms.length + 1) cap2)).setCell ⟨w.heap.size + 1, 1, none⟩ (.int .i64 (P : Int))) (w.heap.size + 1) < s.size - atOf wr (w.heap.size + 1)) := by
          unfold Hid
          rw [atOf_of hC6.out, atOf_of hC.out]
          exact hpP.out
        obtain ⟨z0, z1, z2, t0, t1, t2⟩ := cells3 hC5
        clear hC5 hC4 hR4 hown4 hb4 e4 hgrow1 hC hR hown hsp HBW eW
        go_wp2_with fail
        go_roundw
        case rel => rw [hPw'.out]; exact ⟨P, f', ms ++ [m], (.slice (some ⟨g2, 0, none⟩) (ms.length + 1) cap2), hP1.out, hf2.out, hlen2.out, hnext, hown6.out, hR6, hC6, HB6.out⟩
        case measure => rw [hPw'.out]; exact hM6.out
end Go.Proofs.Ytddkefjcpgdomaa
