import Derived.Test.YtembeinglnojkaaDoorMgSame
namespace Go.Proofs.YtembeinglnojkaaDoor
open Go.RowKit
set_option linter.unusedVariables false

set_option maxRecDepth 100000 in
set_option maxHeartbeats 4000000 in
theorem sameFilter_any (xs ys : List Nod) (a b : Option Addr) (c d : Nat) (w : World) (hn : xs.length ≤ 1099511627744) (hl : ∀ x ∈ xs, x.l.length ≤ 8796093021952) (h1 : RdG 9 nV nT w a xs) (h2 : RdG 9 nV nT w b ys) (he : xs.map np = ys.map np) :
    Calls Tryd.prog 32 #[.slice a xs.length c, .slice b xs.length d] w fun e w' => e = .returned (.bool true) ∧ Below w.heap.size w w' := by
  have hlen' : Hid (ys.length = xs.length) := by
    have := congrArg List.length he
    unfold Hid
    simpa using this.symm
  have h1' : Hid (RdG 9 nV nT w a xs) := h1
  have h2' : Hid (RdG 9 nV nT w b ys) := h2
  have hl' : Hid (∀ x ∈ xs, x.l.length ≤ 8796093021952) := hl
  have he' : Hid (∀ i (hi : i < xs.length) (hj : i < ys.length), np xs[i] = np ys[i]) := fun i hi hj => by
    have h3 : (xs.map np)[i]? = (ys.map np)[i]? := by rw [he]
    simpa [hi, hj] using h3
  clear h1 h2 hl he
  go_enter Tryd.func32, Tryd.ntmps32
  go_wp2_with fail
  go_loopw [5] (fun iv wr => ∃ i : Nat, i ≤ xs.length ∧ iv = .int .i64 (i : Int) ∧ Hid (Below w.heap.size w wr)) (fun iv _ => xs.length - (intOf iv).toNat)
  case atStart => exact ⟨0, Nat.zero_le _, rfl, Below.refl _ _⟩
  case round =>
    obtain ⟨i, hi, rfl, hw⟩ := hrel
    by_cases hlt : i < xs.length
    · have hlj : i < ys.length := by rw [hlen'.out]; exact hlt
      have g1 := h1'.out.below nV_len hw.out
      have g2 := h2'.out.below nV_len hw.out
      have r1 := g1.2 _ (List.getElem_mem hlt)
      have r2 := g2.2 _ (List.getElem_mem hlj)
      have hxl := hl'.out _ (List.getElem_mem hlt)
      have hpl := he'.out i hlt hlj
      obtain ⟨b1, o1, rfl, p1⟩ := g1.1 i hlt
      obtain ⟨b2, o2, rfl, p2⟩ := g2.1 i hlj
      obtain ⟨⟨xd, xo, xs', xv, xi, xa, xn, xl, xf, xr, xb⟩, hx⟩ : ∃ x, xs[i] = x := ⟨_, rfl⟩
      obtain ⟨⟨yd, yo, ys', yv, yi, ya, yn, yl, yf, yr, yb⟩, hy⟩ : ∃ y, ys[i] = y := ⟨_, rfl⟩
      rw [hx] at p1 r1 hxl hpl
      rw [hy] at p2 r2 hpl
      simp only [np, Prod.mk.injEq] at hpl
      obtain ⟨rfl, rfl, rfl, rfl, rfl, rfl, rfl, rfl, rfl⟩ := hpl
      dsimp only [nT] at r1 r2 hxl
      obtain ⟨c0, c1, c2, c3, c4, c5, c6, c7, c8⟩ : wr.cell? ⟨b1, o1 + i * 9, none⟩ = some (.int .i64 xd) ∧ wr.cell? ⟨b1, o1 + i * 9 + 1, none⟩ = some (.int .i64 xo) ∧ wr.cell? ⟨b1, o1 + i * 9 + 2, none⟩ = some (.string (S xs')) ∧ wr.cell? ⟨b1, o1 + i * 9 + 3, none⟩ = some (.string (S xv)) ∧ wr.cell? ⟨b1, o1 + i * 9 + 4, none⟩ = some (.string (S xi)) ∧ wr.cell? ⟨b1, o1 + i * 9 + 5, none⟩ = some (.slice xa xl.length xn) ∧ wr.cell? ⟨b1, o1 + i * 9 + 6, none⟩ = some (.string (S xf)) ∧ wr.cell? ⟨b1, o1 + i * 9 + 7, none⟩ = some (.string (S xr)) ∧ wr.cell? ⟨b1, o1 + i * 9 + 8, none⟩ = some (.bool xb) := ⟨p1 0 (by omega), p1 1 (by omega), p1 2 (by omega), p1 3 (by omega), p1 4 (by omega), p1 5 (by omega), p1 6 (by omega), p1 7 (by omega), p1 8 (by omega)⟩
      obtain ⟨wA, hwA⟩ : ∃ W, wr.alloc (.cells #[.int .i64 xd, .int .i64 xo, .string (S xs'), .string (S xv), .string (S xi), .slice xa xl.length xn, .string (S xf), .string (S xr), .bool xb] 72) = W := ⟨_, rfl⟩
      obtain ⟨wB, hwB⟩ : ∃ W, wA.alloc (.cells #[.int .i64 xd, .int .i64 xo, .string (S xs'), .string (S xv), .string (S xi), .slice ya xl.length yn, .string (S xf), .string (S xr), .bool xb] 72) = W := ⟨_, rfl⟩
      have hA : Below wr.heap.size wr wA := by rw [← hwA]; exact (Below.refl _ _).alloc (Nat.le_refl _) _
      have hB : Below wA.heap.size wA wB := by rw [← hwB]; exact (Below.refl _ _).alloc (Nat.le_refl _) _
      have hAB : Below wr.heap.size wr wB := hA.trans (hB.mono hA.size)
      obtain ⟨d0, d1, d2, d3, d4, d5, d6, d7, d8⟩ : wA.cell? ⟨b2, o2 + i * 9, none⟩ = some (.int .i64 xd) ∧ wA.cell? ⟨b2, o2 + i * 9 + 1, none⟩ = some (.int .i64 xo) ∧ wA.cell? ⟨b2, o2 + i * 9 + 2, none⟩ = some (.string (S xs')) ∧ wA.cell? ⟨b2, o2 + i * 9 + 3, none⟩ = some (.string (S xv)) ∧ wA.cell? ⟨b2, o2 + i * 9 + 4, none⟩ = some (.string (S xi)) ∧ wA.cell? ⟨b2, o2 + i * 9 + 5, none⟩ = some (.slice ya xl.length yn) ∧ wA.cell? ⟨b2, o2 + i * 9 + 6, none⟩ = some (.string (S xf)) ∧ wA.cell? ⟨b2, o2 + i * 9 + 7, none⟩ = some (.string (S xr)) ∧ wA.cell? ⟨b2, o2 + i * 9 + 8, none⟩ = some (.bool xb) := by
        obtain ⟨b2', o2', e, p3⟩ := (g2.below nV_len hA).1 i hlj
        injection e with e
        injection e with e1 e2
        subst e1 e2
        rw [hy] at p3
        exact ⟨p3 0 (by omega), p3 1 (by omega), p3 2 (by omega), p3 3 (by omega), p3 4 (by omega), p3 5 (by omega), p3 6 (by omega), p3 7 (by omega), p3 8 (by omega)⟩
      have p : Box wB wr.heap.size 72 #[.int .i64 xd, .int .i64 xo, .string (S xs'), .string (S xv), .string (S xi), .slice xa xl.length xn, .string (S xf), .string (S xr), .bool xb] := by rw [← hwB]; exact Box.past (by rw [← hwA]; exact Box.new _ _ _) _
      have q : Box wB wA.heap.size 72 #[.int .i64 xd, .int .i64 xo, .string (S xs'), .string (S xv), .string (S xi), .slice ya xl.length yn, .string (S xf), .string (S xr), .bool xb] := by rw [← hwB]; exact Box.new _ _ _
      have hS : Hid (Calls Tryd.prog 28 #[.slice xa xl.length xn, .slice ya xl.length yn] wB fun e w' => e = .returned (.bool true) ∧ Below wB.heap.size wB w') :=
        (sameT_any xl xa ya xn yn wB (by omega) (r1.below hAB) (r2.below hAB)).mono (fun e w' ⟨h, m, hm⟩ => ⟨h, by rw [hm]; exact drewN_below _ _ _⟩)
      have e5 : wB.cell? ⟨wr.heap.size, 5, none⟩ = some (.slice xa xl.length xn) := (p.cell 5 (by simp)).1
      have f5 : wB.cell? ⟨wA.heap.size, 5, none⟩ = some (.slice ya xl.length yn) := (q.cell 5 (by simp)).1
      obtain ⟨s1, G1⟩ : ∃ X, S xs' = X := ⟨_, rfl⟩
      obtain ⟨t1, G2⟩ : ∃ X, S xv = X := ⟨_, rfl⟩
      obtain ⟨p1', G3⟩ : ∃ X, S xi = X := ⟨_, rfl⟩
      obtain ⟨q1, G4⟩ : ∃ X, S xf = X := ⟨_, rfl⟩
      obtain ⟨r1', G5⟩ : ∃ X, S xr = X := ⟨_, rfl⟩
      rw [G1, G2, G3, G4, G5] at p q hwA hwB
      rw [G1] at c2 d2
      rw [G2] at c3 d3
      rw [G3] at c4 d4
      rw [G4] at c6 d6
      rw [G5] at c7 d7
      have hK : Hid (∀ W, Below wB.heap.size wB W → (W.cell? ⟨wr.heap.size, 0, none⟩ = some (.int .i64 xd) ∧ W.cell? ⟨wr.heap.size, 1, none⟩ = some (.int .i64 xo) ∧ W.cell? ⟨wr.heap.size, 2, none⟩ = some (.string s1) ∧ W.cell? ⟨wr.heap.size, 3, none⟩ = some (.string t1) ∧ W.cell? ⟨wr.heap.size, 4, none⟩ = some (.string p1') ∧ W.cell? ⟨wr.heap.size, 5, none⟩ = some (.slice xa xl.length xn) ∧ W.cell? ⟨wr.heap.size, 6, none⟩ = some (.string q1) ∧ W.cell? ⟨wr.heap.size, 7, none⟩ = some (.string r1') ∧ W.cell? ⟨wr.heap.size, 8, none⟩ = some (.bool xb)) ∧ (W.cell? ⟨wA.heap.size, 0, none⟩ = some (.int .i64 xd) ∧ W.cell? ⟨wA.heap.size, 1, none⟩ = some (.int .i64 xo) ∧ W.cell? ⟨wA.heap.size, 2, none⟩ = some (.string s1) ∧ W.cell? ⟨wA.heap.size, 3, none⟩ = some (.string t1) ∧ W.cell? ⟨wA.heap.size, 4, none⟩ = some (.string p1') ∧ W.cell? ⟨wA.heap.size, 5, none⟩ = some (.slice ya xl.length yn) ∧ W.cell? ⟨wA.heap.size, 6, none⟩ = some (.string q1) ∧ W.cell? ⟨wA.heap.size, 7, none⟩ = some (.string r1') ∧ W.cell? ⟨wA.heap.size, 8, none⟩ = some (.bool xb))) := fun W hb => ⟨⟨((p.below hb).cell 0 (by simp)).1, ((p.below hb).cell 1 (by simp)).1, ((p.below hb).cell 2 (by simp)).1, ((p.below hb).cell 3 (by simp)).1, ((p.below hb).cell 4 (by simp)).1, ((p.below hb).cell 5 (by simp)).1, ((p.below hb).cell 6 (by simp)).1, ((p.below hb).cell 7 (by simp)).1, ((p.below hb).cell 8 (by simp)).1⟩, ⟨((q.below hb).cell 0 (by simp)).1, ((q.below hb).cell 1 (by simp)).1, ((q.below hb).cell 2 (by simp)).1, ((q.below hb).cell 3 (by simp)).1, ((q.below hb).cell 4 (by simp)).1, ((q.below hb).cell 5 (by simp)).1, ((q.below hb).cell 6 (by simp)).1, ((q.below hb).cell 7 (by simp)).1, ((q.below hb).cell 8 (by simp)).1⟩⟩
      have i0 : (0 : Int) ≤ (i : Int) := Int.natCast_nonneg _
      have i1 : (i : Int) < (xs.length : Int) := Int.ofNat_lt.2 hlt
      have hlt' : Hid (i < xs.length) := hlt
      have hAB' : Hid (Below w.heap.size w wB) := hw.out.trans (hAB.mono hw.out.size)
      clear r1 r2 hx hy hlj hlt p1 p2 p q hA hB hAB g1 g2 G1 G2 G3 G4 G5
      go_upto_region 7 with fail
      clear hwA c0 c1 c2 c3 c4 c5 c6 c7 c8
      go_upto_region 8 with fail
      clear hwB d0 d1 d2 d3 d4 d5 d6 d7 d8
      go_upto_region 9 with (go_at_call 28; refine hS.out.mono ?_; rintro e w1 ⟨rfl, hb1⟩)
      obtain ⟨⟨k0, k1, k2, k3, k4, k5, k6, k7, k8⟩, m0, m1, m2, m3, m4, m5, m6, m7, m8⟩ := hK.out w1 hb1
      have hfin : Hid (Below w.heap.size w w1) := hAB'.out.trans (hb1.mono hAB'.out.size)
      clear hS e5 f5 hK hb1 hAB' hw
      go_wp2_with fail
      clear k0 k1 k2 k3 k4 k5 k6 k7 k8 m0 m1 m2 m3 m4 m5 m6 m7 m8
      go_roundw
      case rel => exact ⟨i + 1, hlt'.out, by simp, hfin⟩
      case measure => have := hlt'.out; simp [intOf]; omega
    · have e : i = xs.length := by omega
      subst e
      have k1 : ¬ (xs.length : Int) < (xs.length : Int) := by omega
      go_wp2_with fail
      go_ret
      exact ⟨rfl, hw.out⟩
end Go.Proofs.YtembeinglnojkaaDoor
