import Derived.Test.YtofghgggllfafaaDoorFlLk2
namespace Go.Proofs.YtofghgggllfafaaDoor
open Go.RowKit
open TextMath
set_option linter.unusedVariables false

set_option maxRecDepth 100000 in
set_option maxHeartbeats 8000000 in
theorem look_pos (n c b off k0 i j : Nat) (E : Int) (w0 w : World) (hb0 : Below w0.heap.size w0 w) (hw : w0.heap.size < w.heap.size) (g : Nat → Bool) (hN : NB w w0.heap.size g)
    (d1 o1 : Int) (s1 v1 i1 : ByteArray) (a1 : Option Addr) (l1 : List (List UInt8)) (n1 : Nat) (f1 r1 : ByteArray) (t1 : Bool) (dN : Int)
    (c0 : w.cell? ⟨b, off + i * 9, none⟩ = some (.int .i64 d1)) (c1 : w.cell? ⟨b, off + i * 9 + 1, none⟩ = some (.int .i64 o1)) (c2 : w.cell? ⟨b, off + i * 9 + 2, none⟩ = some (.string s1)) (c3 : w.cell? ⟨b, off + i * 9 + 3, none⟩ = some (.string v1)) (c4 : w.cell? ⟨b, off + i * 9 + 4, none⟩ = some (.string i1)) (c5 : w.cell? ⟨b, off + i * 9 + 5, none⟩ = some (.slice a1 l1.length n1)) (c6 : w.cell? ⟨b, off + i * 9 + 6, none⟩ = some (.string f1)) (c7 : w.cell? ⟨b, off + i * 9 + 7, none⟩ = some (.string r1)) (c8 : w.cell? ⟨b, off + i * 9 + 8, none⟩ = some (.bool t1))
    (hij : i = k0 + 1 ∧ j = i + 1) (d2 o2 : Int) (s2 v2 i2 : ByteArray) (a2 : Option Addr) (m2 n2 : Nat) (f2 r2 : ByteArray) (t2 : Bool) (h20 : 0 ≤ d2) (h264 : d2 ≤ 64) (z0 : w.cell? ⟨b, off + k0 * 9, none⟩ = some (.int .i64 d2)) (z1 : w.cell? ⟨b, off + k0 * 9 + 1, none⟩ = some (.int .i64 o2)) (z2 : w.cell? ⟨b, off + k0 * 9 + 2, none⟩ = some (.string s2)) (z3 : w.cell? ⟨b, off + k0 * 9 + 3, none⟩ = some (.string v2)) (z4 : w.cell? ⟨b, off + k0 * 9 + 4, none⟩ = some (.string i2)) (z5 : w.cell? ⟨b, off + k0 * 9 + 5, none⟩ = some (.slice a2 m2 n2)) (z6 : w.cell? ⟨b, off + k0 * 9 + 6, none⟩ = some (.string f2)) (z7 : w.cell? ⟨b, off + k0 * 9 + 7, none⟩ = some (.string r2)) (z8 : w.cell? ⟨b, off + k0 * 9 + 8, none⟩ = some (.bool t2))
    (hn : n ≤ 1048577) (hin : i < n) (hdN : Hid (j < n → w.cell? ⟨b, off + j * 9, none⟩ = some (.int .i64 dN)))
    (hl : l1.length ≤ 1048576) (hs : s1.size ≤ maxLen) (hr : r1.size ≤ maxLen) (h1 : Row w a1 l1)
    (e1 : Hid (pf d1 d2 o2 = false → E = 120)) (e2 : Hid (pf d1 d2 o2 = true → 64 < d1 → E = 121)) (e3 : Hid (pf d1 d2 o2 = true → d1 ≤ 64 → sou o1 s1 v1 i1 f1 r1 l1 t1 = false → E = 120))
    (e4 : Hid (pf d1 d2 o2 = true → d1 ≤ 64 → sou o1 s1 v1 i1 f1 r1 l1 t1 = true → ∀ k : Nat, d1 = (k : Int) + 1 → g k = true → d1 ≤ d2 → E = 120))
    (e5 : Hid (pf d1 d2 o2 = true → d1 ≤ 64 → sou o1 s1 v1 i1 f1 r1 l1 t1 = true → ∀ k : Nat, d1 = (k : Int) + 1 → ¬ (g k = true ∧ d1 ≤ d2) → o1 = 2 → ¬ (j < n ∧ dN = d1 + 1) → E = 120))
    (e6 : Hid (pf d1 d2 o2 = true → d1 ≤ 64 → sou o1 s1 v1 i1 f1 r1 l1 t1 = true → ∀ k : Nat, d1 = (k : Int) + 1 → ¬ (g k = true ∧ d1 ≤ d2) → (¬ o1 = 2 ∨ (j < n ∧ dN = d1 + 1)) → E = 0)) :
    Calls Tryd.prog 24 #[.pointer (some ⟨w0.heap.size, 0, none⟩), .slice (some ⟨b, off, none⟩) n c, .int .i64 (i : Int)] w fun e w' => e = .returned (.int .i64 E) ∧ Below w0.heap.size w0 w' ∧ (E = 0 → ∃ D : Nat, d1 = (D : Int) ∧ NB w' w0.heap.size (upd g D (decide (o1 = 2)))) := by
  obtain ⟨Wa, hWa⟩ : ∃ W, w.alloc (.cells #[.int .i64 d1, .int .i64 o1, .string s1, .string v1, .string i1, .slice a1 l1.length n1, .string f1, .string r1, .bool t1] 38) = W := ⟨_, rfl⟩
  obtain ⟨W1, hW1⟩ : ∃ W, Wa.alloc (.cells #[.int .i64 0, .int .i64 0, .string ⟨#[]⟩, .string ⟨#[]⟩, .string ⟨#[]⟩, .slice none 0 0, .string ⟨#[]⟩, .string ⟨#[]⟩, .bool false] 38) = W := ⟨_, rfl⟩
  have na : Wa.heap.size = w.heap.size + 1 := by rw [← hWa]; simp
  have p71 : Box W1 w.heap.size 38 #[.int .i64 d1, .int .i64 o1, .string s1, .string v1, .string i1, .slice a1 l1.length n1, .string f1, .string r1, .bool t1] := by rw [← hW1]; exact (show Box Wa w.heap.size 38 #[.int .i64 d1, .int .i64 o1, .string s1, .string v1, .string i1, .slice a1 l1.length n1, .string f1, .string r1, .bool t1] by rw [← hWa]; exact Box.new _ _ _).past _
  have p81 : Box W1 (w.heap.size + 1) 38 #[.int .i64 0, .int .i64 0, .string ⟨#[]⟩, .string ⟨#[]⟩, .string ⟨#[]⟩, .slice none 0 0, .string ⟨#[]⟩, .string ⟨#[]⟩, .bool false] := by rw [← hW1, ← na]; exact Box.new _ _ _
  have hBw1 : Below w.heap.size w W1 := by
    rw [← hW1, ← hWa]
    exact ((Below.refl _ _).alloc (Nat.le_refl _) _).alloc (by simp) _
  have hWc : Hid ((w.alloc (.cells #[.int .i64 d1, .int .i64 o1, .string s1, .string v1, .string i1, .slice a1 l1.length n1, .string f1, .string r1, .bool t1] 38)).alloc (.cells #[.int .i64 0, .int .i64 0, .string ⟨#[]⟩, .string ⟨#[]⟩, .string ⟨#[]⟩, .slice none 0 0, .string ⟨#[]⟩, .string ⟨#[]⟩, .bool false] 38) = W1) := by rw [hWa]; exact hW1
  have u0 : W1.cell? ⟨b, off + k0 * 9, none⟩ = some (.int .i64 d2) := by rw [hBw1.cell (World.block_lt_of_cell? w _ z0)]; exact z0
  obtain ⟨mm0, mn0⟩ : W1.cell? ⟨w.heap.size + 1, 0, none⟩ = some (.int .i64 0) ∧ W1.frozen? ⟨w.heap.size + 1, 0, none⟩ = false := ⟨(p81.cell 0 (by simp)).1, (p81.cell 0 (by simp)).2⟩
  have u1 : W1.cell? ⟨b, off + k0 * 9 + 1, none⟩ = some (.int .i64 o2) := by rw [hBw1.cell (World.block_lt_of_cell? w _ z1)]; exact z1
  obtain ⟨mm1, mn1⟩ : W1.cell? ⟨w.heap.size + 1, 1, none⟩ = some (.int .i64 0) ∧ W1.frozen? ⟨w.heap.size + 1, 1, none⟩ = false := ⟨(p81.cell 1 (by simp)).1, (p81.cell 1 (by simp)).2⟩
  have u2 : W1.cell? ⟨b, off + k0 * 9 + 2, none⟩ = some (.string s2) := by rw [hBw1.cell (World.block_lt_of_cell? w _ z2)]; exact z2
  obtain ⟨mm2, mn2⟩ : W1.cell? ⟨w.heap.size + 1, 2, none⟩ = some (.string ⟨#[]⟩) ∧ W1.frozen? ⟨w.heap.size + 1, 2, none⟩ = false := ⟨(p81.cell 2 (by simp)).1, (p81.cell 2 (by simp)).2⟩
  have u3 : W1.cell? ⟨b, off + k0 * 9 + 3, none⟩ = some (.string v2) := by rw [hBw1.cell (World.block_lt_of_cell? w _ z3)]; exact z3
  obtain ⟨mm3, mn3⟩ : W1.cell? ⟨w.heap.size + 1, 3, none⟩ = some (.string ⟨#[]⟩) ∧ W1.frozen? ⟨w.heap.size + 1, 3, none⟩ = false := ⟨(p81.cell 3 (by simp)).1, (p81.cell 3 (by simp)).2⟩
  have u4 : W1.cell? ⟨b, off + k0 * 9 + 4, none⟩ = some (.string i2) := by rw [hBw1.cell (World.block_lt_of_cell? w _ z4)]; exact z4
  obtain ⟨mm4, mn4⟩ : W1.cell? ⟨w.heap.size + 1, 4, none⟩ = some (.string ⟨#[]⟩) ∧ W1.frozen? ⟨w.heap.size + 1, 4, none⟩ = false := ⟨(p81.cell 4 (by simp)).1, (p81.cell 4 (by simp)).2⟩
  have u5 : W1.cell? ⟨b, off + k0 * 9 + 5, none⟩ = some (.slice a2 m2 n2) := by rw [hBw1.cell (World.block_lt_of_cell? w _ z5)]; exact z5
  obtain ⟨mm5, mn5⟩ : W1.cell? ⟨w.heap.size + 1, 5, none⟩ = some (.slice none 0 0) ∧ W1.frozen? ⟨w.heap.size + 1, 5, none⟩ = false := ⟨(p81.cell 5 (by simp)).1, (p81.cell 5 (by simp)).2⟩
  have u6 : W1.cell? ⟨b, off + k0 * 9 + 6, none⟩ = some (.string f2) := by rw [hBw1.cell (World.block_lt_of_cell? w _ z6)]; exact z6
  obtain ⟨mm6, mn6⟩ : W1.cell? ⟨w.heap.size + 1, 6, none⟩ = some (.string ⟨#[]⟩) ∧ W1.frozen? ⟨w.heap.size + 1, 6, none⟩ = false := ⟨(p81.cell 6 (by simp)).1, (p81.cell 6 (by simp)).2⟩
  have u7 : W1.cell? ⟨b, off + k0 * 9 + 7, none⟩ = some (.string r2) := by rw [hBw1.cell (World.block_lt_of_cell? w _ z7)]; exact z7
  obtain ⟨mm7, mn7⟩ : W1.cell? ⟨w.heap.size + 1, 7, none⟩ = some (.string ⟨#[]⟩) ∧ W1.frozen? ⟨w.heap.size + 1, 7, none⟩ = false := ⟨(p81.cell 7 (by simp)).1, (p81.cell 7 (by simp)).2⟩
  have u8 : W1.cell? ⟨b, off + k0 * 9 + 8, none⟩ = some (.bool t2) := by rw [hBw1.cell (World.block_lt_of_cell? w _ z8)]; exact z8
  obtain ⟨mm8, mn8⟩ : W1.cell? ⟨w.heap.size + 1, 8, none⟩ = some (.bool false) ∧ W1.frozen? ⟨w.heap.size + 1, 8, none⟩ = false := ⟨(p81.cell 8 (by simp)).1, (p81.cell 8 (by simp)).2⟩
  obtain ⟨W, hW⟩ : ∃ W, (((((((((W1.setCell ⟨w.heap.size + 1, 0, none⟩ (.int .i64 d2)).setCell ⟨w.heap.size + 1, 1, none⟩ (.int .i64 o2)).setCell ⟨w.heap.size + 1, 2, none⟩ (.string s2)).setCell ⟨w.heap.size + 1, 3, none⟩ (.string v2)).setCell ⟨w.heap.size + 1, 4, none⟩ (.string i2)).setCell ⟨w.heap.size + 1, 5, none⟩ (.slice a2 m2 n2)).setCell ⟨w.heap.size + 1, 6, none⟩ (.string f2)).setCell ⟨w.heap.size + 1, 7, none⟩ (.string r2)).setCell ⟨w.heap.size + 1, 8, none⟩ (.bool t2)) = W := ⟨_, rfl⟩
  have p7 : Box W w.heap.size 38 #[.int .i64 d1, .int .i64 o1, .string s1, .string v1, .string i1, .slice a1 l1.length n1, .string f1, .string r1, .bool t1] := by rw [← hW]; exact p71.of (set9_keep (by omega))
  have p8 : Box W (w.heap.size + 1) 38 #[.int .i64 d2, .int .i64 o2, .string s2, .string v2, .string i2, .slice a2 m2 n2, .string f2, .string r2, .bool t2] := by rw [← hW]; exact set9_box p81
  have hBw : Below w.heap.size w W := by rw [← hW]; exact set9_below hBw1 (by omega)
  have hBW : Below w0.heap.size w0 W := hb0.trans (hBw.mono (by omega))
  have hsz : w.heap.size ≤ W.heap.size := hBw.size
  have hNW : NB W w0.heap.size g := hN.below hBw
  have hdW : Hid (j < n → W.cell? ⟨b, off + j * 9, none⟩ = some (.int .i64 dN)) := fun h => by
    have := hdN.out h
    rw [hBw.cell (World.block_lt_of_cell? w _ this)]
    exact this
  have H7 : Hid (∀ W', Below W.heap.size W W' → (W'.cell? ⟨w.heap.size, 0, none⟩ = some (.int .i64 d1) ∧ W'.cell? ⟨w.heap.size, 1, none⟩ = some (.int .i64 o1) ∧ W'.cell? ⟨w.heap.size, 2, none⟩ = some (.string s1) ∧ W'.cell? ⟨w.heap.size, 3, none⟩ = some (.string v1) ∧ W'.cell? ⟨w.heap.size, 4, none⟩ = some (.string i1) ∧ W'.cell? ⟨w.heap.size, 5, none⟩ = some (.slice a1 l1.length n1) ∧ W'.cell? ⟨w.heap.size, 6, none⟩ = some (.string f1) ∧ W'.cell? ⟨w.heap.size, 7, none⟩ = some (.string r1) ∧ W'.cell? ⟨w.heap.size, 8, none⟩ = some (.bool t1)) ∧ (W'.cell? ⟨w.heap.size + 1, 0, none⟩ = some (.int .i64 d2) ∧ W'.cell? ⟨w.heap.size + 1, 1, none⟩ = some (.int .i64 o2) ∧ W'.cell? ⟨w.heap.size + 1, 2, none⟩ = some (.string s2) ∧ W'.cell? ⟨w.heap.size + 1, 3, none⟩ = some (.string v2) ∧ W'.cell? ⟨w.heap.size + 1, 4, none⟩ = some (.string i2) ∧ W'.cell? ⟨w.heap.size + 1, 5, none⟩ = some (.slice a2 m2 n2) ∧ W'.cell? ⟨w.heap.size + 1, 6, none⟩ = some (.string f2) ∧ W'.cell? ⟨w.heap.size + 1, 7, none⟩ = some (.string r2) ∧ W'.cell? ⟨w.heap.size + 1, 8, none⟩ = some (.bool t2))) := fun W' hb => ⟨box_nineB (p7.below hb), box_nineB (p8.below hb)⟩
  have HN : Hid (∀ W', Below W.heap.size W W' → NB W' w0.heap.size g ∧ (j < n → W'.cell? ⟨b, off + j * 9, none⟩ = some (.int .i64 dN)) ∧ Below w0.heap.size w0 W') := fun W' hb => ⟨hNW.below hb, fun h => by
    have := hdW.out h
    rw [hb.cell (World.block_lt_of_cell? W _ this)]
    exact this, hBW.trans (hb.mono (by omega))⟩
  have KF : Hid (Calls Tryd.prog 31 #[.agg #[.int .i64 d1, .int .i64 o1, .string s1, .string v1, .string i1, .slice a1 l1.length n1, .string f1, .string r1, .bool t1], .agg #[.int .i64 d2, .int .i64 o2, .string s2, .string v2, .string i2, .slice a2 m2 n2, .string f2, .string r2, .bool t2]] W fun e w' => e = .returned (.bool (pf d1 d2 o2)) ∧ Below W.heap.size W w') := follows_any _ _ _ _ _ _ _ _ _ _ _ _ _ _ _ _ _ _ _ _ _ _ W h20 h264
  have KS : Hid (∀ W', Below W.heap.size W W' → Calls Tryd.prog 32 #[.agg #[.int .i64 d1, .int .i64 o1, .string s1, .string v1, .string i1, .slice a1 l1.length n1, .string f1, .string r1, .bool t1]] W' fun e w' => e = .returned (.bool (sou o1 s1 v1 i1 f1 r1 l1 t1)) ∧ Below W'.heap.size W' w') := fun W' hb => sound_any _ _ _ _ _ _ _ _ _ _ _ W' hl hs hr ((h1.below hBw).below hb)
  have HWW : Hid ((((((((((W1.setCell ⟨w.heap.size + 1, 0, none⟩ (.int .i64 d2)).setCell ⟨w.heap.size + 1, 1, none⟩ (.int .i64 o2)).setCell ⟨w.heap.size + 1, 2, none⟩ (.string s2)).setCell ⟨w.heap.size + 1, 3, none⟩ (.string v2)).setCell ⟨w.heap.size + 1, 4, none⟩ (.string i2)).setCell ⟨w.heap.size + 1, 5, none⟩ (.slice a2 m2 n2)).setCell ⟨w.heap.size + 1, 6, none⟩ (.string f2)).setCell ⟨w.heap.size + 1, 7, none⟩ (.string r2)).setCell ⟨w.heap.size + 1, 8, none⟩ (.bool t2)) = W) := hW
  have HI : Hid (i < n ∧ n ≤ 1048577) := ⟨hin, hn⟩
  have j1 : ((i : Int)) < (n : Int) := by omega
  have j0 : (0 : Int) ≤ (i : Int) := Int.natCast_nonneg _
  have j4 : (0 : Int) ≤ (k0 : Int) := Int.natCast_nonneg _
  have j5 : (k0 : Int) < (n : Int) := by omega
  have j8 : (0 : Int) < (i : Int) := by omega
  have j9 : (i : Int) > 0 := j8
  have j10 : (0 : Int) ≤ (j : Int) := Int.natCast_nonneg _
  have j11 : 0 < i := by omega
  have Q5 : Hid (wrap64 ((i : Int) - 1) = (k0 : Int) ∧ IntKind.i64.wrap ((i : Int) - 1) = (k0 : Int)) := wr_down hij.1 (by omega)
  have Q7 : Hid (wrap64 ((i : Int) + 1) = (j : Int) ∧ IntKind.i64.wrap ((i : Int) + 1) = (j : Int)) := wr_up hij.2 (by omega)
  have hij' : Hid (i = k0 + 1 ∧ j = i + 1) := hij
  clear hdW hNW hBW hBw p7 p8 na hW hWa hW1 p71 p81 hBw1 z0 z1 z2 z3 z4 z5 z6 z7 z8 hdN hN h1 hl hs hr hsz hb0 hin hn hij
  go_enter Tryd.func24, Tryd.ntmps24
  have hWv := hWc.out
  obtain ⟨q5, q6⟩ := Q5.out
  go_upto_region 5 with fail
  rw [HWW.out]
  clear c0 c1 c2 c3 c4 c5 c6 c7 c8 u0 mm0 mn0 u1 mm1 mn1 u2 mm2 mn2 u3 mm3 mn3 u4 mm4 mn4 u5 mm5 mn5 u6 mm6 mn6 u7 mm7 mn7 u8 mm8 mn8 hWv q5 q6
  obtain ⟨⟨x0, x1, x2, x3, x4, x5, x6, x7, x8⟩, y0, y1, y2, y3, y4, y5, y6, y7, y8⟩ := H7.out W (Below.refl _ _)
  cases hfo : pf d1 d2 o2 with
  | false =>
    rw [hfo] at KF
    have hE : Hid (E = 120) := e1.out hfo
    go_wp2_with (go_at_call 31; refine KF.out.mono ?_; rintro e w1 ⟨rfl, hb1⟩)
    go_ret
    exact ⟨by rw [hE.out]; rfl, (HN.out w1 hb1).2.2, fun h => absurd h (by rw [hE.out]; decide)⟩
  | true =>
    rw [hfo] at KF
    have hge : Hid (1 ≤ d1) := pf_ge hfo h20
    go_upto_region 7 with (go_at_call 31; refine KF.out.mono ?_; rintro e w1 ⟨rfl, hb1⟩)
    clear KF x0 x1 x2 x3 x4 x5 x6 x7 x8 y0 y1 y2 y3 y4 y5 y6 y7 y8
    obtain ⟨⟨x0, x1, x2, x3, x4, x5, x6, x7, x8⟩, y0, y1, y2, y3, y4, y5, y6, y7, y8⟩ := H7.out w1 hb1
    by_cases h64 : 64 < d1
    · have hE : Hid (E = 121) := e2.out hfo h64
      have h64' : d1 > 64 := h64
      go_wp2_with fail
      go_ret
      exact ⟨by rw [hE.out]; rfl, (HN.out w1 hb1).2.2, fun h => absurd h (by rw [hE.out]; decide)⟩
    · have hle : Hid (d1 ≤ 64) := show d1 ≤ 64 by omega
      go_upto_region 9 with fail
      cases hso : sou o1 s1 v1 i1 f1 r1 l1 t1 with
      | false =>
        rw [hso] at KS
        have hE : Hid (E = 120) := e3.out hfo hle.out hso
        go_wp2_with (go_at_call 32; refine (KS.out _ hb1).mono ?_; rintro e w2 ⟨rfl, hb2⟩)
        go_ret
        exact ⟨by rw [hE.out]; rfl, (HN.out w2 (hb1.trans (hb2.mono hb1.size))).2.2, fun h => absurd h (by rw [hE.out]; decide)⟩
      | true =>
        rw [hso] at KS
        go_upto_region 11 with (go_at_call 32; refine (KS.out _ hb1).mono ?_; rintro e w2 ⟨rfl, hb2⟩)
        have hb3 : Below W.heap.size W w2 := hb1.trans (hb2.mono hb1.size)
        clear KS x0 x1 x2 x3 x4 x5 x6 x7 x8 y0 y1 y2 y3 y4 y5 y6 y7 y8 h64
        obtain ⟨D, rfl⟩ : ∃ D : Nat, d1 = (D : Int) := ⟨d1.toNat, by have := hge.out; omega⟩
        obtain ⟨k, hk⟩ : ∃ k : Nat, D = k + 1 := ⟨D - 1, by have := hge.out; omega⟩
        have hkk : Hid (k < 64 ∧ (D : Int) = (k : Int) + 1) := ⟨by have := hle.out; omega, by omega⟩
        have hD64 : D ≤ 64 := by have := hle.out; omega
        have j2 : (0 : Int) ≤ (k : Int) := Int.natCast_nonneg _
        have j3 : (k : Int) < 65 := by have := hkk.out.1; omega
        have j6 : (0 : Int) ≤ (D : Int) := Int.natCast_nonneg _
        have j7 : (D : Int) < 65 := by have := hkk.out; omega
        obtain ⟨x0, x1, y0⟩ : w2.cell? ⟨w.heap.size, 0, none⟩ = some (.int .i64 (D : Int)) ∧ w2.cell? ⟨w.heap.size, 1, none⟩ = some (.int .i64 o1) ∧ w2.cell? ⟨w.heap.size + 1, 0, none⟩ = some (.int .i64 d2) := by
          obtain ⟨⟨x0, x1, _⟩, y0, _⟩ := H7.out w2 hb3
          exact ⟨x0, x1, y0⟩
        have gk := ((HN.out w2 hb3).1.at k (by have := hkk.out.1; omega)).1
        obtain ⟨gD, fD⟩ := (HN.out w2 hb3).1.at D (by have := hkk.out; omega)
        have hD65 : Hid (D < 65) := by unfold Hid; have := hkk.out; omega
        have hb4 : Hid (Below W.heap.size W w2) := hb3
        have hneb : w.heap.size ≠ w0.heap.size := by omega
        obtain ⟨q2, q1⟩ := wr_down hk (by omega)
        obtain ⟨q4, q3⟩ := wr_same hD64
        clear hk hD64
        clear hb3 hb2 hb1
        have hgo : Hid (¬ (g k = true ∧ (D : Int) ≤ d2) → (¬ o1 = 2 ∨ (j < n ∧ dN = (D : Int) + 1)) → E = 0) := fun h h' => e6.out hfo hle.out hso k hkk.out.2 h h'
        have hno : Hid (¬ (g k = true ∧ (D : Int) ≤ d2) → o1 = 2 → ¬ (j < n ∧ dN = (D : Int) + 1) → E = 120) := fun h h' h'' => e5.out hfo hle.out hso k hkk.out.2 h h' h''
        cases hg : g k with
        | true =>
          rw [hg] at gk
          by_cases h2 : (D : Int) ≤ d2
          · have hE : Hid (E = 120) := e4.out hfo hle.out hso k hkk.out.2 hg h2
            have h2' : decide ((D : Int) ≤ d2) = true := decide_eq_true h2
            clear hgo hno e1 e2 e3 e4 e5 e6
            go_quiet (fail)
            go_wp2_with fail
            go_ret
            exact ⟨by rw [hE.out]; rfl, (HN.out w2 hb4.out).2.2.trans (drewN_below _ _ _), fun h => absurd h (by rw [hE.out]; decide)⟩
          · have hgn : Hid (¬ (g k = true ∧ (D : Int) ≤ d2)) := fun h => h2 h.2
            have h2' : decide ((D : Int) ≤ d2) = false := decide_eq_false h2
            clear e1 e2 e3 e4 e5 e6
            go_quiet (fail)
            by_cases ho : o1 = 2
            · subst ho
              by_cases hJ : j < n
              · have gN : w2.cell? ⟨b, off + j * 9, none⟩ = some (.int .i64 dN) := (HN.out w2 hb4.out).2.1 hJ
                have w1 : ((j : Int) == (n : Int)) = false := ne_beq hJ
                have w2' : ((j : Int)) < (n : Int) := Int.ofNat_lt.2 hJ
                obtain ⟨q7, q8⟩ := Q7.out
                by_cases hd : dN = (D : Int) + 1
                · have hE : Hid (E = 0) := hgo.out hgn.out (Or.inr ⟨hJ, hd⟩)
                  have w3 : (dN != (D : Int) + 1) = false := by simpa using hd
                  clear hgo hno
                  go_wp2_with fail
                  go_quiet (fail)
                  go_wp2_with fail
                  go_region_held3 (fun W' => W'.cell? ⟨w.heap.size, 0, none⟩ = some (.int .i64 (D : Int)) ∧ W'.cell? ⟨w.heap.size, 1, none⟩ = some (.int .i64 2))
                    (first | exact ⟨x0, x1⟩ | exact ⟨by rw [cell_setB hneb]; exact x0, by rw [cell_setB hneb]; exact x1⟩)
                    (fail)
                  go_wp2_with fail
                  go_ret
                  have hz := (HN.out w2 hb4.out)
                  refine ⟨by rw [hE.out]; rfl, Below.setCell (p := ⟨w0.heap.size, D, none⟩) (hz.2.2.trans (drewN_below _ _ _)) (Nat.le_refl _) _, fun _ => ⟨D, rfl, ?_⟩⟩
                  have hy : ∀ q, NB ((w2.drewN q).setCell ⟨w0.heap.size, D, none⟩ (.bool true)) w0.heap.size (upd g D true) := fun q => NB.set (W := w2.drewN q) (show NB (w2.drewN q) w0.heap.size g from hz.1) D hD65.out true
                  first | exact hy _ | (rw [decide_eq_true rfl]; exact hy _)
                · have hE : Hid (E = 120) := hno.out hgn.out rfl (fun h => hd h.2)
                  have w3 : (dN != (D : Int) + 1) = true := by simpa using hd
                  clear hgo hno
                  go_wp2_with fail
                  go_quiet (fail)
                  go_wp2_with fail
                  go_ret
                  exact ⟨by rw [hE.out]; rfl, (HN.out w2 hb4.out).2.2.trans (drewN_below _ _ _), fun h => absurd h (by rw [hE.out]; decide)⟩
              · have hE : Hid (E = 120) := hno.out hgn.out rfl (fun h => hJ h.1)
                have w1 : ((j : Int) == (n : Int)) = true := eq_beq hJ hij'.out.2 HI.out.1
                obtain ⟨q7, q8⟩ := Q7.out
                clear hgo hno
                go_wp2_with fail
                go_quiet (fail)
                go_wp2_with fail
                go_ret
                exact ⟨by rw [hE.out]; rfl, (HN.out w2 hb4.out).2.2.trans (drewN_below _ _ _), fun h => absurd h (by rw [hE.out]; decide)⟩
            · have hE : Hid (E = 0) := hgo.out hgn.out (Or.inl ho)
              have w1 : (o1 == 2) = false := by simpa using ho
              clear hgo hno
              go_wp2_with fail
              go_quiet (fail)
              go_wp2_with fail
              go_region_held3 (fun W' => W'.cell? ⟨w.heap.size, 0, none⟩ = some (.int .i64 (D : Int)) ∧ W'.cell? ⟨w.heap.size, 1, none⟩ = some (.int .i64 o1))
                (first | exact ⟨x0, x1⟩ | exact ⟨by rw [cell_setB hneb]; exact x0, by rw [cell_setB hneb]; exact x1⟩)
                (fail)
              go_wp2_with fail
              go_ret
              have hz := (HN.out w2 hb4.out)
              refine ⟨by rw [hE.out]; rfl, Below.setCell (p := ⟨w0.heap.size, D, none⟩) (hz.2.2.trans (drewN_below _ _ _)) (Nat.le_refl _) _, fun _ => ⟨D, rfl, ?_⟩⟩
              have hy : ∀ q, NB ((w2.drewN q).setCell ⟨w0.heap.size, D, none⟩ (.bool false)) w0.heap.size (upd g D false) := fun q => NB.set (W := w2.drewN q) (show NB (w2.drewN q) w0.heap.size g from hz.1) D hD65.out false
              first | exact hy _ | (rw [decide_eq_false ho]; exact hy _)
        | false =>
          rw [hg] at gk
          have hgn : Hid (¬ (g k = true ∧ (D : Int) ≤ d2)) := fun h => by rw [hg] at h; cases h.1
          clear e1 e2 e3 e4 e5 e6
          go_quiet (fail)
          by_cases ho : o1 = 2
          · subst ho
            by_cases hJ : j < n
            · have gN : w2.cell? ⟨b, off + j * 9, none⟩ = some (.int .i64 dN) := (HN.out w2 hb4.out).2.1 hJ
              have w1 : ((j : Int) == (n : Int)) = false := ne_beq hJ
              have w2' : ((j : Int)) < (n : Int) := Int.ofNat_lt.2 hJ
              obtain ⟨q7, q8⟩ := Q7.out
              by_cases hd : dN = (D : Int) + 1
              · have hE : Hid (E = 0) := hgo.out hgn.out (Or.inr ⟨hJ, hd⟩)
                have w3 : (dN != (D : Int) + 1) = false := by simpa using hd
                clear hgo hno
                go_wp2_with fail
                go_quiet (fail)
                go_wp2_with fail
                go_region_held3 (fun W' => W'.cell? ⟨w.heap.size, 0, none⟩ = some (.int .i64 (D : Int)) ∧ W'.cell? ⟨w.heap.size, 1, none⟩ = some (.int .i64 2))
                  (first | exact ⟨x0, x1⟩ | exact ⟨by rw [cell_setB hneb]; exact x0, by rw [cell_setB hneb]; exact x1⟩)
                  (fail)
                go_wp2_with fail
                go_ret
                have hz := (HN.out w2 hb4.out)
                refine ⟨by rw [hE.out]; rfl, Below.setCell (p := ⟨w0.heap.size, D, none⟩) (hz.2.2.trans (drewN_below _ _ _)) (Nat.le_refl _) _, fun _ => ⟨D, rfl, ?_⟩⟩
                have hy : ∀ q, NB ((w2.drewN q).setCell ⟨w0.heap.size, D, none⟩ (.bool true)) w0.heap.size (upd g D true) := fun q => NB.set (W := w2.drewN q) (show NB (w2.drewN q) w0.heap.size g from hz.1) D hD65.out true
                first | exact hy _ | (rw [decide_eq_true rfl]; exact hy _)
              · have hE : Hid (E = 120) := hno.out hgn.out rfl (fun h => hd h.2)
                have w3 : (dN != (D : Int) + 1) = true := by simpa using hd
                clear hgo hno
                go_wp2_with fail
                go_quiet (fail)
                go_wp2_with fail
                go_ret
                exact ⟨by rw [hE.out]; rfl, (HN.out w2 hb4.out).2.2.trans (drewN_below _ _ _), fun h => absurd h (by rw [hE.out]; decide)⟩
            · have hE : Hid (E = 120) := hno.out hgn.out rfl (fun h => hJ h.1)
              have w1 : ((j : Int) == (n : Int)) = true := eq_beq hJ hij'.out.2 HI.out.1
              obtain ⟨q7, q8⟩ := Q7.out
              clear hgo hno
              go_wp2_with fail
              go_quiet (fail)
              go_wp2_with fail
              go_ret
              exact ⟨by rw [hE.out]; rfl, (HN.out w2 hb4.out).2.2.trans (drewN_below _ _ _), fun h => absurd h (by rw [hE.out]; decide)⟩
          · have hE : Hid (E = 0) := hgo.out hgn.out (Or.inl ho)
            have w1 : (o1 == 2) = false := by simpa using ho
            clear hgo hno
            go_wp2_with fail
            go_quiet (fail)
            go_wp2_with fail
            go_region_held3 (fun W' => W'.cell? ⟨w.heap.size, 0, none⟩ = some (.int .i64 (D : Int)) ∧ W'.cell? ⟨w.heap.size, 1, none⟩ = some (.int .i64 o1))
              (first | exact ⟨x0, x1⟩ | exact ⟨by rw [cell_setB hneb]; exact x0, by rw [cell_setB hneb]; exact x1⟩)
              (fail)
            go_wp2_with fail
            go_ret
            have hz := (HN.out w2 hb4.out)
            refine ⟨by rw [hE.out]; rfl, Below.setCell (p := ⟨w0.heap.size, D, none⟩) (hz.2.2.trans (drewN_below _ _ _)) (Nat.le_refl _) _, fun _ => ⟨D, rfl, ?_⟩⟩
            have hy : ∀ q, NB ((w2.drewN q).setCell ⟨w0.heap.size, D, none⟩ (.bool false)) w0.heap.size (upd g D false) := fun q => NB.set (W := w2.drewN q) (show NB (w2.drewN q) w0.heap.size g from hz.1) D hD65.out false
            first | exact hy _ | (rw [decide_eq_false ho]; exact hy _)
end Go.Proofs.YtofghgggllfafaaDoor
