import Derived.Test.YtdeeegocjgikoaaDoorEnBack
import Derived.Laws.StructEq
namespace Go.Proofs.YtdeeegocjgikoaaDoor
open Go.RowKit
set_option linter.unusedVariables false

theorem drewN_below (W : World) (B q : Nat) : Below B W (W.drewN q) := ⟨rfl, rfl, rfl, Nat.le_refl _, fun _ _ => rfl⟩
set_option maxRecDepth 100000 in
set_option maxHeartbeats 2000000 in
theorem sameAttrs_any (xs ys : List Atr) (a b : Option Addr) (c d : Nat) (w : World) (hn : xs.length ≤ 1048576) (hl : ∀ x ∈ xs, x.l.length ≤ 1048576) (h1 : ARow w a xs) (h2 : ARow w b ys) (he : xs.map pl = ys.map pl) :
    Calls Tryd.prog 10 #[.slice a xs.length c, .slice b xs.length d] w fun e w' => e = .returned (.bool true) ∧ ∃ q, w' = w.drewN q := by
  have hlen : ys.length = xs.length := by
    have := congrArg List.length he
    simpa using this.symm
  have h1' : Hid (ARow w a xs) := h1
  have h2' : Hid (ARow w b ys) := h2
  have hl' : Hid (∀ x ∈ xs, x.l.length ≤ 1048576) := hl
  have he' : Hid (∀ i (hi : i < xs.length) (hj : i < ys.length), pl xs[i] = pl ys[i]) := fun i hi hj => by
    have h3 : (xs.map pl)[i]? = (ys.map pl)[i]? := by rw [he]
    simpa [hi, hj] using h3
  have hlen' : Hid (ys.length = xs.length) := hlen
  clear h1 h2 hl he hlen
  go_enter Tryd.func10, Tryd.ntmps10
  go_wp2_with fail
  go_loopw [5] (fun iv wr => ∃ i q : Nat, i ≤ xs.length ∧ iv = .int .i64 (i : Int) ∧ Hid (wr = w.drewN q)) (fun iv _ => xs.length - (intOf iv).toNat)
  case atStart => exact ⟨0, 0, Nat.zero_le _, rfl, rfl⟩
  case round =>
    obtain ⟨i, q, hi, rfl, hw⟩ := hrel
    by_cases hlt : i < xs.length
    · have hlj : i < ys.length := by rw [hlen'.out]; exact hlt
      obtain ⟨⟨b1, o1, rfl, c0, c1, c2⟩, r1⟩ := h1'.out i hlt
      obtain ⟨⟨b2, o2, rfl, d0, d1, d2⟩, r2⟩ := h2'.out i hlj
      have hxl := hl'.out _ (List.getElem_mem hlt)
      have hpl := he'.out i hlt hlj
      obtain ⟨⟨xd, xc, xa, xn, xl⟩, hx⟩ : ∃ x, xs[i] = x := ⟨_, rfl⟩
      obtain ⟨⟨yd, yc, ya, yn, yl⟩, hy⟩ : ∃ y, ys[i] = y := ⟨_, rfl⟩
      rw [hx] at c0 c1 c2 r1 hxl hpl
      rw [hy] at d0 d1 d2 r2 hpl
      dsimp only at c0 c1 c2 r1 hxl d0 d1 d2 r2
      simp only [pl, Prod.mk.injEq] at hpl
      obtain ⟨rfl, rfl, rfl⟩ := hpl
      have hE : ∀ a, wr.cell? a = w.cell? a := fun a => by rw [hw.out]; rfl
      have hS : ∀ n, Hid (Calls Tryd.prog 18 #[.slice xa xl.length xn, .slice ya xl.length yn] (wr.drewN n) fun e w' => e = .returned (.bool true) ∧ ∃ m, w' = (wr.drewN n).drewN m) := fun n => by
        have hb : Below w.heap.size w (wr.drewN n) := by rw [hw.out]; exact drewN_below _ _ _ |>.trans (drewN_below _ _ _)
        exact sameT_any xl xa ya xn yn _ (by omega) (r1.below hb) (r2.below hb)
      rw [← hE] at c0 c1 c2 d0 d1 d2
      have i0 : (0 : Int) ≤ (i : Int) := Int.natCast_nonneg _
      have i1 : (i : Int) < (xs.length : Int) := Int.ofNat_lt.2 hlt
      have hlt' : Hid (i < xs.length) := hlt
      clear hE r1 r2 hx hy hlj hlt
      go_wp2_with fail
      go_quiet ((go_at_call 18; exact Calls.quiet_of (hS _).out))
      clear hS c0 c1 c2 d0 d1 d2
      go_wp2_with fail
      go_roundw
      case rel => exact ⟨i + 1, _, hlt'.out, by simp, by unfold Hid; rw [hw.out, World.drewN_drewN]⟩
      case measure => have := hlt'.out; simp [intOf]; omega
    · have e : i = xs.length := by omega
      subst e
      have k1 : ¬ (xs.length : Int) < (xs.length : Int) := by omega
      go_wp2_with fail
      go_ret
      exact ⟨rfl, _, hw.out⟩
end Go.Proofs.YtdeeegocjgikoaaDoor
