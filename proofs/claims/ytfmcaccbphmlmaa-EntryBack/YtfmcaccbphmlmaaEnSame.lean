import Derived.Test.YtfmcaccbphmlmaaEnBack
import Derived.Laws.StructEq
namespace Go.Proofs.Ytfmcaccbphmlmaa
open Go.RowKit
set_option linter.unusedVariables false

theorem drewN_below (W : World) (B q : Nat) : Below B W (W.drewN q) := ⟨rfl, rfl, rfl, Nat.le_refl _, fun _ _ => rfl⟩
theorem ne_pair (c s : ByteArray) (W : World) :
    (binOp .neq 39 (.agg #[.string c, .string s]) (.agg #[.string c, .string s])).run Try.prog W = .ok (.bool false) W := by
  have hS : Try.prog.underlying 39 = some (.struct (Try.prog.fieldsOf 39)) := by kernel_rfl
  have hp : Try.prog.stoodInHeld 39 = false := by kernel_rfl
  rw [run_neq_struct, run_equalIn_struct _ _ _ _ _ hS hp]
  simp only [Program.fieldsOf, Try.underlying39]
  simp [Op.eqFields, go_sem]

set_option maxHeartbeats 1000000 in
theorem samePairs_any (l : List (List UInt8 × List UInt8)) (a b : Option Addr) (c d : Nat) (w : World) (hl : l.length ≤ 1048576) (h1 : PRow w a l) (h2 : PRow w b l) :
    Calls Try.prog 11 #[.slice a l.length c, .slice b l.length d] w fun e w' => e = .returned (.bool true) ∧ ∃ q, w' = w.drewN q := by
  go_enter Try.func11, Try.ntmps11
  go_wp2_with fail
  go_loopw [5] (fun iv wr => ∃ i q : Nat, i ≤ l.length ∧ iv = .int .i64 (i : Int) ∧ Hid (wr = w.drewN q)) (fun iv _ => l.length - (intOf iv).toNat)
  case atStart => exact ⟨0, 0, Nat.zero_le _, rfl, rfl⟩
  case round =>
    obtain ⟨i, q, hi, rfl, hw⟩ := hrel
    by_cases hlt : i < l.length
    · obtain ⟨b1, rfl, c1, d1⟩ := h1 i hlt
      obtain ⟨b2, rfl, c2, d2⟩ := h2 i hlt
      have hE : ∀ a, wr.cell? a = w.cell? a := fun a => by rw [hw.out]; rfl
      rw [← hE] at c1 c2 d1 d2
      have i0 : (0 : Int) ≤ (i : Int) := Int.natCast_nonneg _
      have i1 : (i : Int) < (l.length : Int) := Int.ofNat_lt.2 hlt
      generalize S l[i].1 = X at *
      generalize S l[i].2 = Y at *
      have hne := ne_pair X Y
      clear hE h1 h2
      go_wp2_with fail
      go_quiet (fail)
      go_wp2_with fail
      go_roundw
      case rel => exact ⟨i + 1, _, hlt, by simp, by unfold Hid; rw [hw.out, World.drewN_drewN]⟩
      case measure => simp [intOf]; omega
    · have e : i = l.length := by omega
      subst e
      have k1 : ¬ (l.length : Int) < (l.length : Int) := by omega
      go_wp2_with fail
      go_ret
      exact ⟨rfl, _, hw.out⟩

set_option maxRecDepth 100000 in
set_option maxHeartbeats 1000000 in
theorem sameRecord_any (ln : Int) (nm : ByteArray) (l : List (List UInt8 × List UInt8)) (a b : Option Addr) (c d : Nat) (w : World) (hl : l.length ≤ 1048576) (h1 : PRow w a l) (h2 : PRow w b l) :
    Calls Try.prog 7 #[.agg #[.int .i64 ln, .string nm, .slice a l.length c], .agg #[.int .i64 ln, .string nm, .slice b l.length d]] w fun e w' => e = .returned (.bool true) ∧ Below w.heap.size w w' := by
  obtain ⟨Wa, hWa⟩ : ∃ W, w.alloc (.cells #[.int .i64 ln, .string nm, .slice a l.length c] 29) = W := ⟨_, rfl⟩
  obtain ⟨Wb, hWb⟩ : ∃ W, Wa.alloc (.cells #[.int .i64 ln, .string nm, .slice b l.length d] 29) = W := ⟨_, rfl⟩
  have na : Wa.heap.size = w.heap.size + 1 := by rw [← hWa]; simp
  have pa : Box Wa w.heap.size 29 #[.int .i64 ln, .string nm, .slice a l.length c] := by rw [← hWa]; exact Box.new _ _ _
  have p : Box Wb w.heap.size 29 #[.int .i64 ln, .string nm, .slice a l.length c] := by rw [← hWb]; exact pa.past _
  have q : Box Wb (w.heap.size + 1) 29 #[.int .i64 ln, .string nm, .slice b l.length d] := by rw [← hWb, ← na]; exact Box.new _ _ _
  have hB : Below w.heap.size w Wb := by
    rw [← hWb, ← hWa]
    exact ((Below.refl _ _).alloc (Nat.le_refl _) _).alloc (by simp) _
  have hS : Hid (Calls Try.prog 11 #[.slice a l.length c, .slice b l.length d] Wb fun e w' => e = .returned (.bool true) ∧ ∃ q, w' = Wb.drewN q) := samePairs_any l a b c d Wb hl (h1.below hB) (h2.below hB)
  obtain ⟨c0, _⟩ := p.cell 0 (by simp)
  obtain ⟨c1, _⟩ := p.cell 1 (by simp)
  obtain ⟨c2, _⟩ := p.cell 2 (by simp)
  obtain ⟨d0, _⟩ := q.cell 0 (by simp)
  obtain ⟨d1, _⟩ := q.cell 1 (by simp)
  obtain ⟨d2, _⟩ := q.cell 2 (by simp)
  simp only [List.getElem_toArray, List.getElem_cons_zero, List.getElem_cons_succ] at c0 c1 c2 d0 d1 d2
  have hB' : Hid (Below w.heap.size w Wb) := hB
  clear pa p q hB h1 h2
  go_enter Try.func7, Try.ntmps7
  go_wp2_with (go_at_call 11; refine hS.out.mono ?_; rintro e w' ⟨rfl, q, rfl⟩)
  go_ret
  exact ⟨rfl, hB'.out.trans (drewN_below _ _ _)⟩

set_option maxRecDepth 100000 in
set_option maxHeartbeats 2000000 in
theorem sameAttrs_any (xs ys : List Atr) (a b : Option Addr) (c d : Nat) (w : World) (hn : xs.length ≤ 1048576) (hl : ∀ x ∈ xs, x.l.length ≤ 1048576) (h1 : ARow w a xs) (h2 : ARow w b ys) (he : xs.map pl = ys.map pl) :
    Calls Try.prog 15 #[.slice a xs.length c, .slice b xs.length d] w fun e w' => e = .returned (.bool true) ∧ ∃ q, w' = w.drewN q := by
  have hlen : ys.length = xs.length := by
    have := congrArg List.length he
    simpa using this.symm
  have h1' : Hid (ARow w a xs) := h1
  have h2' : Hid (ARow w b ys) := h2
  have hl' : Hid (∀ x ∈ xs, x.l.length ≤ 1048576) := hl
  have he' : Hid (∀ i (hi : i < xs.length) (hj : i < ys.length), pl xs[i] = pl ys[i]) := fun i hi hj => by
    have h3 : (xs.map pl)[i]? = (ys.map pl)[i]? := by rw [he]
    simpa [hi, hj] using h3
  have hlen' : Hid (ys.length = xs.length) := hlen
  clear h1 h2 hl he hlen
  go_enter Try.func15, Try.ntmps15
  go_wp2_with fail
  go_loopw [5] (fun iv wr => ∃ i q : Nat, i ≤ xs.length ∧ iv = .int .i64 (i : Int) ∧ Hid (wr = w.drewN q)) (fun iv _ => xs.length - (intOf iv).toNat)
  case atStart => exact ⟨0, 0, Nat.zero_le _, rfl, rfl⟩
  case round =>
    obtain ⟨i, q, hi, rfl, hw⟩ := hrel
    by_cases hlt : i < xs.length
    · have hlj : i < ys.length := by rw [hlen'.out]; exact hlt
      obtain ⟨⟨b1, o1, rfl, c0, c1, c2⟩, r1⟩ := h1'.out i hlt
      obtain ⟨⟨b2, o2, rfl, d0, d1, d2⟩, r2⟩ := h2'.out i hlj
      have hxl := hl'.out _ (List.getElem_mem hlt)
      have hpl := he'.out i hlt hlj
      obtain ⟨⟨xd, xc, xa, xn, xl⟩, hx⟩ : ∃ x, xs[i] = x := ⟨_, rfl⟩
      obtain ⟨⟨yd, yc, ya, yn, yl⟩, hy⟩ : ∃ y, ys[i] = y := ⟨_, rfl⟩
      rw [hx] at c0 c1 c2 r1 hxl hpl
      rw [hy] at d0 d1 d2 r2 hpl
      dsimp only at c0 c1 c2 r1 hxl d0 d1 d2 r2
      simp only [pl, Prod.mk.injEq] at hpl
      obtain ⟨rfl, rfl, rfl⟩ := hpl
      have hE : ∀ a, wr.cell? a = w.cell? a := fun a => by rw [hw.out]; rfl
      have hS : ∀ n, Hid (Calls Try.prog 16 #[.slice xa xl.length xn, .slice ya xl.length yn] (wr.drewN n) fun e w' => e = .returned (.bool true) ∧ ∃ m, w' = (wr.drewN n).drewN m) := fun n => by
        have hb : Below w.heap.size w (wr.drewN n) := by rw [hw.out]; exact drewN_below _ _ _ |>.trans (drewN_below _ _ _)
        exact sameT_any xl xa ya xn yn _ (by omega) (r1.below hb) (r2.below hb)
      rw [← hE] at c0 c1 c2 d0 d1 d2
      have i0 : (0 : Int) ≤ (i : Int) := Int.natCast_nonneg _
      have i1 : (i : Int) < (xs.length : Int) := Int.ofNat_lt.2 hlt
      have hlt' : Hid (i < xs.length) := hlt
      clear hE r1 r2 hx hy hlj hlt
      go_wp2_with fail
      go_quiet ((go_at_call 16; exact Calls.quiet_of (hS _).out))
      clear hS c0 c1 c2 d0 d1 d2
      go_wp2_with fail
      go_roundw
      case rel => exact ⟨i + 1, _, hlt'.out, by simp, by unfold Hid; rw [hw.out, World.drewN_drewN]⟩
      case measure => have := hlt'.out; simp [intOf]; omega
    · have e : i = xs.length := by omega
      subst e
      have k1 : ¬ (xs.length : Int) < (xs.length : Int) := by omega
      go_wp2_with fail
      go_ret
      exact ⟨rfl, _, hw.out⟩
end Go.Proofs.Ytfmcaccbphmlmaa
