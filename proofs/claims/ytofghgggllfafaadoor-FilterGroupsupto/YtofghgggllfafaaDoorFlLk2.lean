import Derived.Test.YtofghgggllfafaaDoorFlLok
namespace Go.Proofs.YtofghgggllfafaaDoor
open Go.RowKit
open TextMath
set_option linter.unusedVariables false

theorem pf_ge {d a o : Int} (h : pf d a o = true) (h0 : 0 ≤ a) : 1 ≤ d := by
  unfold pf at h
  by_cases e : d = a + 1
  · omega
  · rw [if_neg e] at h
    have := of_decide_eq_true h
    omega
theorem set9_keep {W : World} {g k : Nat} {a0 a1 a2 a3 a4 a5 a6 a7 a8 : Value} (h : k ≠ g) : (((((((((W.setCell ⟨g, 0, none⟩ a0).setCell ⟨g, 1, none⟩ a1).setCell ⟨g, 2, none⟩ a2).setCell ⟨g, 3, none⟩ a3).setCell ⟨g, 4, none⟩ a4).setCell ⟨g, 5, none⟩ a5).setCell ⟨g, 6, none⟩ a6).setCell ⟨g, 7, none⟩ a7).setCell ⟨g, 8, none⟩ a8).heap[k]? = W.heap[k]? := by
  rw [Below.heap_setCell _ _ _ _ h, Below.heap_setCell _ _ _ _ h, Below.heap_setCell _ _ _ _ h, Below.heap_setCell _ _ _ _ h, Below.heap_setCell _ _ _ _ h, Below.heap_setCell _ _ _ _ h, Below.heap_setCell _ _ _ _ h, Below.heap_setCell _ _ _ _ h, Below.heap_setCell _ _ _ _ h]
theorem wr_down {i k : Nat} (h : i = k + 1) (hi : i ≤ 1048577) : wrap64 ((i : Int) - 1) = (k : Int) ∧ IntKind.i64.wrap ((i : Int) - 1) = (k : Int) := by
  have e : (i : Int) - 1 = (k : Int) := by omega
  rw [e]
  exact ⟨by rw [IntWalk.wrap64_in] <;> omega, by rw [IntKind.wrap_i64]; omega⟩
theorem wr_up {i j : Nat} (h : j = i + 1) (hi : i ≤ 1048577) : wrap64 ((i : Int) + 1) = (j : Int) ∧ IntKind.i64.wrap ((i : Int) + 1) = (j : Int) := by
  have e : (i : Int) + 1 = (j : Int) := by omega
  rw [e]
  exact ⟨by rw [IntWalk.wrap64_in] <;> omega, by rw [IntKind.wrap_i64]; omega⟩
theorem wr_same {D : Nat} (h : D ≤ 64) : wrap64 ((D : Int) + 1) = (D : Int) + 1 ∧ IntKind.i64.wrap ((D : Int) + 1) = (D : Int) + 1 := ⟨by rw [IntWalk.wrap64_in] <;> omega, by rw [IntKind.wrap_i64]; omega⟩
theorem ne_beq {j n : Nat} (h : j < n) : ((j : Int) == (n : Int)) = false := by simp; omega
theorem one_ne {n : Nat} (h : 1 < n) : ((1 : Int) == (n : Int)) = false := by simp; omega
theorem one_lt {n : Nat} (h : 1 < n) : (1 : Int) < (n : Int) := by omega
theorem eq_beq {i j n : Nat} (h : ¬ j < n) (hj : j = i + 1) (hi : i < n) : ((j : Int) == (n : Int)) = true := by simp; omega
theorem one_eq {n : Nat} (h : ¬ 1 < n) (hi : 0 < n) : ((1 : Int) == (n : Int)) = true := by simp; omega
theorem cell_setB {W : World} {h D b j : Nat} {v : Value} (hne : b ≠ h) : (W.setCell ⟨h, D, none⟩ v).cell? ⟨b, j, none⟩ = W.cell? ⟨b, j, none⟩ := by
  unfold World.cell?
  rw [Below.heap_setCell _ _ _ _ hne]
set_option maxRecDepth 100000 in
set_option maxHeartbeats 8000000 in
theorem look_zero (n c b off : Nat) (E : Int) (w0 w : World) (hb0 : Below w0.heap.size w0 w) (hw : w0.heap.size < w.heap.size) (g : Nat → Bool) (hN : NB w w0.heap.size g)
    (d1 o1 : Int) (s1 v1 i1 : ByteArray) (a1 : Option Addr) (l1 : List (List UInt8)) (n1 : Nat) (f1 r1 : ByteArray) (t1 : Bool) (dN : Int)
    (c0 : w.cell? ⟨b, off, none⟩ = some (.int .i64 d1)) (c1 : w.cell? ⟨b, off + 1, none⟩ = some (.int .i64 o1)) (c2 : w.cell? ⟨b, off + 2, none⟩ = some (.string s1)) (c3 : w.cell? ⟨b, off + 3, none⟩ = some (.string v1)) (c4 : w.cell? ⟨b, off + 4, none⟩ = some (.string i1)) (c5 : w.cell? ⟨b, off + 5, none⟩ = some (.slice a1 l1.length n1)) (c6 : w.cell? ⟨b, off + 6, none⟩ = some (.string f1)) (c7 : w.cell? ⟨b, off + 7, none⟩ = some (.string r1)) (c8 : w.cell? ⟨b, off + 8, none⟩ = some (.bool t1))
    
    (hn : n ≤ 1048577) (hin : 0 < n) (hdN : Hid (1 < n → w.cell? ⟨b, off + 9, none⟩ = some (.int .i64 dN)))
    (hl : l1.length ≤ 1048576) (hs : s1.size ≤ maxLen) (hr : r1.size ≤ maxLen) (h1 : Row w a1 l1)
    (e1 : Hid (pf d1 0 0 = false → E = 120)) (e2 : Hid (pf d1 0 0 = true → 64 < d1 → E = 121)) (e3 : Hid (pf d1 0 0 = true → d1 ≤ 64 → sou o1 s1 v1 i1 f1 r1 l1 t1 = false → E = 120))
    (e4 : Hid (pf d1 0 0 = true → d1 ≤ 64 → sou o1 s1 v1 i1 f1 r1 l1 t1 = true → ∀ k : Nat, d1 = (k : Int) + 1 → g k = true → d1 ≤ 0 → E = 120))
    (e5 : Hid (pf d1 0 0 = true → d1 ≤ 64 → sou o1 s1 v1 i1 f1 r1 l1 t1 = true → ∀ k : Nat, d1 = (k : Int) + 1 → ¬ (g k = true ∧ d1 ≤ 0) → o1 = 2 → ¬ (1 < n ∧ dN = d1 + 1) → E = 120))
    (e6 : Hid (pf d1 0 0 = true → d1 ≤ 64 → sou o1 s1 v1 i1 f1 r1 l1 t1 = true → ∀ k : Nat, d1 = (k : Int) + 1 → ¬ (g k = true ∧ d1 ≤ 0) → (¬ o1 = 2 ∨ (1 < n ∧ dN = d1 + 1)) → E = 0)) :
    Calls Tryd.prog 24 #[.pointer (some ⟨w0.heap.size, 0, none⟩), .slice (some ⟨b, off, none⟩) n c, .int .i64 0] w fun e w' => e = .returned (.int .i64 E) ∧ Below w0.heap.size w0 w' ∧ (E = 0 → ∃ D : Nat, d1 = (D : Int) ∧ NB w' w0.heap.size (upd g D (decide (o1 = 2)))) := by
  obtain ⟨Wa, hWa⟩ : ∃ W, w.alloc (.cells #[.int .i64 d1, .int .i64 o1, .string s1, .string v1, .string i1, .slice a1 l1.length n1, .string f1, .string r1, .bool t1] 38) = W := ⟨_, rfl⟩
  obtain ⟨W, hW⟩ : ∃ W, Wa.alloc (.cells #[.int .i64 0, .int .i64 0, .string ⟨#[]⟩, .string ⟨#[]⟩, .string ⟨#[]⟩, .slice none 0 0, .string ⟨#[]⟩, .string ⟨#[]⟩, .bool false] 38) = W := ⟨_, rfl⟩
  have na : Wa.heap.size = w.heap.size + 1 := by rw [← hWa]; simp
  have p7 : Box W w.heap.size 38 #[.int .i64 d1, .int .i64 o1, .string s1, .string v1, .string i1, .slice a1 l1.length n1, .string f1, .string r1, .bool t1] := by rw [← hW]; exact (show Box Wa w.heap.size 38 #[.int .i64 d1, .int .i64 o1, .string s1, .string v1, .string i1, .slice a1 l1.length n1, .string f1, .string r1, .bool t1] by rw [← hWa]; exact Box.new _ _ _).past _
  have p8 : Box W (w.heap.size + 1) 38 #[.int .i64 0, .int .i64 0, .string ⟨#[]⟩, .string ⟨#[]⟩, .string ⟨#[]⟩, .slice none 0 0, .string ⟨#[]⟩, .string ⟨#[]⟩, .bool false] := by rw [← hW, ← na]; exact Box.new _ _ _
  have hBw : Below w.heap.size w W := by
    rw [← hW, ← hWa]
    exact ((Below.refl _ _).alloc (Nat.le_refl _) _).alloc (by simp) _
  have hBW : Below w0.heap.size w0 W := hb0.trans (hBw.mono (by omega))
  have hsz : w.heap.size ≤ W.heap.size := hBw.size
  have hNW : NB W w0.heap.size g := hN.below hBw
  have hdW : Hid (1 < n → W.cell? ⟨b, off + 9, none⟩ = some (.int .i64 dN)) := fun h => by
    have := hdN.out h
    rw [hBw.cell (World.block_lt_of_cell? w _ this)]
    exact this
  have H7 : Hid (∀ W', Below W.heap.size W W' → (W'.cell? ⟨w.heap.size, 0, none⟩ = some (.int .i64 d1) ∧ W'.cell? ⟨w.heap.size, 1, none⟩ = some (.int .i64 o1) ∧ W'.cell? ⟨w.heap.size, 2, none⟩ = some (.string s1) ∧ W'.cell? ⟨w.heap.size, 3, none⟩ = some (.string v1) ∧ W'.cell? ⟨w.heap.size, 4, none⟩ = some (.string i1) ∧ W'.cell? ⟨w.heap.size, 5, none⟩ = some (.slice a1 l1.length n1) ∧ W'.cell? ⟨w.heap.size, 6, none⟩ = some (.string f1) ∧ W'.cell? ⟨w.heap.size, 7, none⟩ = some (.string r1) ∧ W'.cell? ⟨w.heap.size, 8, none⟩ = some (.bool t1)) ∧ (W'.cell? ⟨w.heap.size + 1, 0, none⟩ = some (.int .i64 0) ∧ W'.cell? ⟨w.heap.size + 1, 1, none⟩ = some (.int .i64 0) ∧ W'.cell? ⟨w.heap.size + 1, 2, none⟩ = some (.string ⟨#[]⟩) ∧ W'.cell? ⟨w.heap.size + 1, 3, none⟩ = some (.string ⟨#[]⟩) ∧ W'.cell? ⟨w.heap.size + 1, 4, none⟩ = some (.string ⟨#[]⟩) ∧ W'.cell? ⟨w.heap.size + 1, 5, none⟩ = some (.slice none 0 0) ∧ W'.cell? ⟨w.heap.size + 1, 6, none⟩ = some (.string ⟨#[]⟩) ∧ W'.cell? ⟨w.heap.size + 1, 7, none⟩ = some (.string ⟨#[]⟩) ∧ W'.cell? ⟨w.heap.size + 1, 8, none⟩ = some (.bool false))) := fun W' hb => ⟨box_nineB (p7.below hb), box_nineB (p8.below hb)⟩
  have HN : Hid (∀ W', Below W.heap.size W W' → NB W' w0.heap.size g ∧ (1 < n → W'.cell? ⟨b, off + 9, none⟩ = some (.int .i64 dN)) ∧ Below w0.heap.size w0 W') := fun W' hb => ⟨hNW.below hb, fun h => by
    have := hdW.out h
    rw [hb.cell (World.block_lt_of_cell? W _ this)]
    exact this, hBW.trans (hb.mono (by omega))⟩
  have KF : Hid (Calls Tryd.prog 31 #[.agg #[.int .i64 d1, .int .i64 o1, .string s1, .string v1, .string i1, .slice a1 l1.length n1, .string f1, .string r1, .bool t1], .agg #[.int .i64 0, .int .i64 0, .string ⟨#[]⟩, .string ⟨#[]⟩, .string ⟨#[]⟩, .slice none 0 0, .string ⟨#[]⟩, .string ⟨#[]⟩, .bool false]] W fun e w' => e = .returned (.bool (pf d1 0 0)) ∧ Below W.heap.size W w') := follows_any _ _ _ _ _ _ _ _ _ _ _ _ _ _ _ _ _ _ _ _ _ _ W (by omega) (by omega)
  have KS : Hid (∀ W', Below W.heap.size W W' → Calls Tryd.prog 32 #[.agg #[.int .i64 d1, .int .i64 o1, .string s1, .string v1, .string i1, .slice a1 l1.length n1, .string f1, .string r1, .bool t1]] W' fun e w' => e = .returned (.bool (sou o1 s1 v1 i1 f1 r1 l1 t1)) ∧ Below W'.heap.size W' w') := fun W' hb => sound_any _ _ _ _ _ _ _ _ _ _ _ W' hl hs hr ((h1.below hBw).below hb)
  have HWW : Hid ((w.alloc (.cells #[.int .i64 d1, .int .i64 o1, .string s1, .string v1, .string i1, .slice a1 l1.length n1, .string f1, .string r1, .bool t1] 38)).alloc (.cells #[.int .i64 0, .int .i64 0, .string ⟨#[]⟩, .string ⟨#[]⟩, .string ⟨#[]⟩, .slice none 0 0, .string ⟨#[]⟩, .string ⟨#[]⟩, .bool false] 38) = W) := by rw [hWa]; exact hW
  have HI : Hid (0 < n ∧ n ≤ 1048577) := ⟨hin, hn⟩
  have j1 : (0) < (n : Int) := by omega
  skip
  clear hdW hNW hBW hBw p7 p8 na hW hWa hdN hN h1 hl hs hr hsz hb0 hin hn
  go_enter Tryd.func24, Tryd.ntmps24
  go_upto_region 5 with fail
  rw [HWW.out]
  clear c0 c1 c2 c3 c4 c5 c6 c7 c8
  obtain ⟨⟨x0, x1, x2, x3, x4, x5, x6, x7, x8⟩, y0, y1, y2, y3, y4, y5, y6, y7, y8⟩ := H7.out W (Below.refl _ _)
  cases hfo : pf d1 0 0 with
  | false =>
    rw [hfo] at KF
    have hE : Hid (E = 120) := e1.out hfo
    go_wp2_with (go_at_call 31; refine KF.out.mono ?_; rintro e w1 ⟨rfl, hb1⟩)
    go_ret
    exact ⟨by rw [hE.out]; rfl, (HN.out w1 hb1).2.2, fun h => absurd h (by rw [hE.out]; decide)⟩
  | true =>
    rw [hfo] at KF
    have hge : Hid (1 ≤ d1) := pf_ge hfo (by omega)
    go_upto_region 7 with (go_at_call 31; refine KF.out.mono ?_; rintro e w1 ⟨rfl, hb1⟩)
    clear KF x0 x1 x2 x3 x4 x5 x6 x7 x8 y0 y1 y2 y3 y4 y5 y6 y7 y8
    obtain ⟨⟨x0, x1, x2, x3, x4, x5, x6, x7, x8⟩, y0, y1, y2, y3, y4, y5, y6, y7, y8⟩ := H7.out w1 hb1
    by_cases h64 : 64 < d1
    · have hE : Hid (E = 121) := e2.out hfo h64
      have h64' : d1 > 64 := h64
      go_wp2_with fail
      go_ret
      exact ⟨by rw [hE.out]; rfl, (HN.out w1 hb1).2.2, fun h => absurd h (by rw [hE.out]; decide)⟩
    · have hle : Hid (d1 ≤ 64) := show d1 ≤ 64 by omega
      go_upto_region 9 with fail
      cases hso : sou o1 s1 v1 i1 f1 r1 l1 t1 with
      | false =>
        rw [hso] at KS
        have hE : Hid (E = 120) := e3.out hfo hle.out hso
        go_wp2_with (go_at_call 32; refine (KS.out _ hb1).mono ?_; rintro e w2 ⟨rfl, hb2⟩)
        go_ret
        exact ⟨by rw [hE.out]; rfl, (HN.out w2 (hb1.trans (hb2.mono hb1.size))).2.2, fun h => absurd h (by rw [hE.out]; decide)⟩
      | true =>
        rw [hso] at KS
        go_upto_region 11 with (go_at_call 32; refine (KS.out _ hb1).mono ?_; rintro e w2 ⟨rfl, hb2⟩)
        have hb3 : Below W.heap.size W w2 := hb1.trans (hb2.mono hb1.size)
        clear KS x0 x1 x2 x3 x4 x5 x6 x7 x8 y0 y1 y2 y3 y4 y5 y6 y7 y8 h64
        obtain ⟨D, rfl⟩ : ∃ D : Nat, d1 = (D : Int) := ⟨d1.toNat, by have := hge.out; omega⟩
        obtain ⟨k, hk⟩ : ∃ k : Nat, D = k + 1 := ⟨D - 1, by have := hge.out; omega⟩
        have hkk : Hid (k < 64 ∧ (D : Int) = (k : Int) + 1) := ⟨by have := hle.out; omega, by omega⟩
        have hD64 : D ≤ 64 := by have := hle.out; omega
        have j2 : (0 : Int) ≤ (k : Int) := Int.natCast_nonneg _
        have j3 : (k : Int) < 65 := by have := hkk.out.1; omega
        have j6 : (0 : Int) ≤ (D : Int) := Int.natCast_nonneg _
        have j7 : (D : Int) < 65 := by have := hkk.out; omega
        obtain ⟨x0, x1, y0⟩ : w2.cell? ⟨w.heap.size, 0, none⟩ = some (.int .i64 (D : Int)) ∧ w2.cell? ⟨w.heap.size, 1, none⟩ = some (.int .i64 o1) ∧ w2.cell? ⟨w.heap.size + 1, 0, none⟩ = some (.int .i64 0) := by
          obtain ⟨⟨x0, x1, _⟩, y0, _⟩ := H7.out w2 hb3
          exact ⟨x0, x1, y0⟩
        have gk := ((HN.out w2 hb3).1.at k (by have := hkk.out.1; omega)).1
        obtain ⟨gD, fD⟩ := (HN.out w2 hb3).1.at D (by have := hkk.out; omega)
        have hD65 : Hid (D < 65) := by unfold Hid; have := hkk.out; omega
        have hb4 : Hid (Below W.heap.size W w2) := hb3
        have hneb : w.heap.size ≠ w0.heap.size := by omega
        obtain ⟨q2, q1⟩ := wr_down hk (by omega)
        obtain ⟨q4, q3⟩ := wr_same hD64
        clear hk hD64
        clear hb3 hb2 hb1
        have hgo : Hid (¬ (g k = true ∧ (D : Int) ≤ 0) → (¬ o1 = 2 ∨ (1 < n ∧ dN = (D : Int) + 1)) → E = 0) := fun h h' => e6.out hfo hle.out hso k hkk.out.2 h h'
        have hno : Hid (¬ (g k = true ∧ (D : Int) ≤ 0) → o1 = 2 → ¬ (1 < n ∧ dN = (D : Int) + 1) → E = 120) := fun h h' h'' => e5.out hfo hle.out hso k hkk.out.2 h h' h''
        cases hg : g k with
        | true =>
          rw [hg] at gk
          by_cases h2 : (D : Int) ≤ 0
          · have hE : Hid (E = 120) := e4.out hfo hle.out hso k hkk.out.2 hg h2
            have h2' : decide ((D : Int) ≤ 0) = true := decide_eq_true h2
            clear hgo hno e1 e2 e3 e4 e5 e6
            go_quiet (fail)
            go_wp2_with fail
            go_ret
            exact ⟨by rw [hE.out]; rfl, (HN.out w2 hb4.out).2.2.trans (drewN_below _ _ _), fun h => absurd h (by rw [hE.out]; decide)⟩
          · have hgn : Hid (¬ (g k = true ∧ (D : Int) ≤ 0)) := fun h => h2 h.2
            have h2' : decide ((D : Int) ≤ 0) = false := decide_eq_false h2
            clear e1 e2 e3 e4 e5 e6
            go_quiet (fail)
            by_cases ho : o1 = 2
            · subst ho
              by_cases hJ : 1 < n
              · have gN : w2.cell? ⟨b, off + 9, none⟩ = some (.int .i64 dN) := (HN.out w2 hb4.out).2.1 hJ
                have w1 : ((1 : Int) == (n : Int)) = false := one_ne hJ
                have w2' : ((1 : Int)) < (n : Int) := one_lt hJ
                by_cases hd : dN = (D : Int) + 1
                · have hE : Hid (E = 0) := hgo.out hgn.out (Or.inr ⟨hJ, hd⟩)
                  have w3 : (dN != (D : Int) + 1) = false := by simpa using hd
                  clear hgo hno
                  go_wp2_with fail
                  go_quiet (fail)
                  go_wp2_with fail
                  go_region_held3 (fun W' => W'.cell? ⟨w.heap.size, 0, none⟩ = some (.int .i64 (D : Int)) ∧ W'.cell? ⟨w.heap.size, 1, none⟩ = some (.int .i64 2))
                    (first | exact ⟨x0, x1⟩ | exact ⟨by rw [cell_setB hneb]; exact x0, by rw [cell_setB hneb]; exact x1⟩)
                    (fail)
                  go_wp2_with fail
                  go_ret
                  have hz := (HN.out w2 hb4.out)
                  refine ⟨by rw [hE.out]; rfl, Below.setCell (p := ⟨w0.heap.size, D, none⟩) (hz.2.2.trans (drewN_below _ _ _)) (Nat.le_refl _) _, fun _ => ⟨D, rfl, ?_⟩⟩
                  have hy : ∀ q, NB ((w2.drewN q).setCell ⟨w0.heap.size, D, none⟩ (.bool true)) w0.heap.size (upd g D true) := fun q => NB.set (W := w2.drewN q) (show NB (w2.drewN q) w0.heap.size g from hz.1) D hD65.out true
                  first | exact hy _ | (rw [decide_eq_true rfl]; exact hy _)
                · have hE : Hid (E = 120) := hno.out hgn.out rfl (fun h => hd h.2)
                  have w3 : (dN != (D : Int) + 1) = true := by simpa using hd
                  clear hgo hno
                  go_wp2_with fail
                  go_quiet (fail)
                  go_wp2_with fail
                  go_ret
                  exact ⟨by rw [hE.out]; rfl, (HN.out w2 hb4.out).2.2.trans (drewN_below _ _ _), fun h => absurd h (by rw [hE.out]; decide)⟩
              · have hE : Hid (E = 120) := hno.out hgn.out rfl (fun h => hJ h.1)
                have w1 : ((1 : Int) == (n : Int)) = true := one_eq hJ HI.out.1
                clear hgo hno
                go_wp2_with fail
                go_quiet (fail)
                go_wp2_with fail
                go_ret
                exact ⟨by rw [hE.out]; rfl, (HN.out w2 hb4.out).2.2.trans (drewN_below _ _ _), fun h => absurd h (by rw [hE.out]; decide)⟩
            · have hE : Hid (E = 0) := hgo.out hgn.out (Or.inl ho)
              have w1 : (o1 == 2) = false := by simpa using ho
              clear hgo hno
              go_wp2_with fail
              go_quiet (fail)
              go_wp2_with fail
              go_region_held3 (fun W' => W'.cell? ⟨w.heap.size, 0, none⟩ = some (.int .i64 (D : Int)) ∧ W'.cell? ⟨w.heap.size, 1, none⟩ = some (.int .i64 o1))
                (first | exact ⟨x0, x1⟩ | exact ⟨by rw [cell_setB hneb]; exact x0, by rw [cell_setB hneb]; exact x1⟩)
                (fail)
              go_wp2_with fail
              go_ret
              have hz := (HN.out w2 hb4.out)
              refine ⟨by rw [hE.out]; rfl, Below.setCell (p := ⟨w0.heap.size, D, none⟩) (hz.2.2.trans (drewN_below _ _ _)) (Nat.le_refl _) _, fun _ => ⟨D, rfl, ?_⟩⟩
              have hy : ∀ q, NB ((w2.drewN q).setCell ⟨w0.heap.size, D, none⟩ (.bool false)) w0.heap.size (upd g D false) := fun q => NB.set (W := w2.drewN q) (show NB (w2.drewN q) w0.heap.size g from hz.1) D hD65.out false
              first | exact hy _ | (rw [decide_eq_false ho]; exact hy _)
        | false =>
          rw [hg] at gk
          have hgn : Hid (¬ (g k = true ∧ (D : Int) ≤ 0)) := fun h => by rw [hg] at h; cases h.1
          clear e1 e2 e3 e4 e5 e6
          go_quiet (fail)
          by_cases ho : o1 = 2
          · subst ho
            by_cases hJ : 1 < n
            · have gN : w2.cell? ⟨b, off + 9, none⟩ = some (.int .i64 dN) := (HN.out w2 hb4.out).2.1 hJ
              have w1 : ((1 : Int) == (n : Int)) = false := one_ne hJ
              have w2' : ((1 : Int)) < (n : Int) := one_lt hJ
              by_cases hd : dN = (D : Int) + 1
              · have hE : Hid (E = 0) := hgo.out hgn.out (Or.inr ⟨hJ, hd⟩)
                have w3 : (dN != (D : Int) + 1) = false := by simpa using hd
                clear hgo hno
                go_wp2_with fail
                go_quiet (fail)
                go_wp2_with fail
                go_region_held3 (fun W' => W'.cell? ⟨w.heap.size, 0, none⟩ = some (.int .i64 (D : Int)) ∧ W'.cell? ⟨w.heap.size, 1, none⟩ = some (.int .i64 2))
                  (first | exact ⟨x0, x1⟩ | exact ⟨by rw [cell_setB hneb]; exact x0, by rw [cell_setB hneb]; exact x1⟩)
                  (fail)
                go_wp2_with fail
                go_ret
                have hz := (HN.out w2 hb4.out)
                refine ⟨by rw [hE.out]; rfl, Below.setCell (p := ⟨w0.heap.size, D, none⟩) (hz.2.2.trans (drewN_below _ _ _)) (Nat.le_refl _) _, fun _ => ⟨D, rfl, ?_⟩⟩
                have hy : ∀ q, NB ((w2.drewN q).setCell ⟨w0.heap.size, D, none⟩ (.bool true)) w0.heap.size (upd g D true) := fun q => NB.set (W := w2.drewN q) (show NB (w2.drewN q) w0.heap.size g from hz.1) D hD65.out true
                first | exact hy _ | (rw [decide_eq_true rfl]; exact hy _)
              · have hE : Hid (E = 120) := hno.out hgn.out rfl (fun h => hd h.2)
                have w3 : (dN != (D : Int) + 1) = true := by simpa using hd
                clear hgo hno
                go_wp2_with fail
                go_quiet (fail)
                go_wp2_with fail
                go_ret
                exact ⟨by rw [hE.out]; rfl, (HN.out w2 hb4.out).2.2.trans (drewN_below _ _ _), fun h => absurd h (by rw [hE.out]; decide)⟩
            · have hE : Hid (E = 120) := hno.out hgn.out rfl (fun h => hJ h.1)
              have w1 : ((1 : Int) == (n : Int)) = true := one_eq hJ HI.out.1
              clear hgo hno
              go_wp2_with fail
              go_quiet (fail)
              go_wp2_with fail
              go_ret
              exact ⟨by rw [hE.out]; rfl, (HN.out w2 hb4.out).2.2.trans (drewN_below _ _ _), fun h => absurd h (by rw [hE.out]; decide)⟩
          · have hE : Hid (E = 0) := hgo.out hgn.out (Or.inl ho)
            have w1 : (o1 == 2) = false := by simpa using ho
            clear hgo hno
            go_wp2_with fail
            go_quiet (fail)
            go_wp2_with fail
            go_region_held3 (fun W' => W'.cell? ⟨w.heap.size, 0, none⟩ = some (.int .i64 (D : Int)) ∧ W'.cell? ⟨w.heap.size, 1, none⟩ = some (.int .i64 o1))
              (first | exact ⟨x0, x1⟩ | exact ⟨by rw [cell_setB hneb]; exact x0, by rw [cell_setB hneb]; exact x1⟩)
              (fail)
            go_wp2_with fail
            go_ret
            have hz := (HN.out w2 hb4.out)
            refine ⟨by rw [hE.out]; rfl, Below.setCell (p := ⟨w0.heap.size, D, none⟩) (hz.2.2.trans (drewN_below _ _ _)) (Nat.le_refl _) _, fun _ => ⟨D, rfl, ?_⟩⟩
            have hy : ∀ q, NB ((w2.drewN q).setCell ⟨w0.heap.size, D, none⟩ (.bool false)) w0.heap.size (upd g D false) := fun q => NB.set (W := w2.drewN q) (show NB (w2.drewN q) w0.heap.size g from hz.1) D hD65.out false
            first | exact hy _ | (rw [decide_eq_false ho]; exact hy _)
end Go.Proofs.YtofghgggllfafaaDoor
