import Derived.Test.YtdeeegocjgikoaaDoorEnStrip
import Derived.Test.YtdeeegocjgikoaaDoorEnWish3
namespace Go.Proofs.YtdeeegocjgikoaaDoor
open Go.RowKit
set_option linter.unusedVariables false

theorem take_stepX {l k : List (List UInt8)} {i : Nat} (h : l.take i = k.take i) (h1 : i < l.length) (h2 : i < k.length) (e : l[i] = k[i]) : l.take (i + 1) = k.take (i + 1) := by
  rw [List.take_succ_eq_append_getElem h1, List.take_succ_eq_append_getElem h2, h, e]
theorem ne_atX {l k : List (List UInt8)} {i : Nat} (h1 : i < l.length) (h2 : i < k.length) (e : ¬ l[i] = k[i]) : ¬ l = k := by
  intro q; subst q; exact e rfl
theorem whole_eqX {l k : List (List UInt8)} (h : l.take l.length = k.take l.length) (e : l.length = k.length) : l = k := by
  rw [List.take_length, e, List.take_length] at h
  exact h
set_option maxRecDepth 100000 in
set_option maxHeartbeats 1000000 in
theorem sameX_loop (l k : List (List UInt8)) (a b : Option Addr) (c d : Nat) (w : World) (hl : l.length ≤ 9223372036854775807) (hk : k.length ≤ 9223372036854775807) (hlen : l.length = k.length) (h1 : Row w a l) (h2 : Row w b k) :
    Calls Tryd.prog 18 #[.slice a l.length c, .slice b k.length d] w fun e w' => e = .returned (.bool (decide (l = k))) ∧ ∃ q, w' = w.drewN q := by
  have hlen' : Hid (l.length = k.length) := hlen
  have hb0 : ((l.length : Int) != (k.length : Int)) = false := by rw [hlen]; simp
  go_enter Tryd.func18, Tryd.ntmps18
  clear hlen
  go_wp2_with fail
  go_loopw [5] (fun iv wr => ∃ i q : Nat, i ≤ l.length ∧ iv = .int .i64 (i : Int) ∧ Hid (l.take i = k.take i) ∧ Hid (wr = w.drewN q)) (fun iv _ => l.length - (intOf iv).toNat)
  case atStart => exact ⟨0, 0, Nat.zero_le _, rfl, by unfold Hid; simp, rfl⟩
  case round =>
    obtain ⟨i, q, hi, rfl, htk, hw⟩ := hrel
    have hlen := hlen'.out
    by_cases hlt : i < l.length
    · have hlk : i < k.length := by omega
      obtain ⟨b1, o1, rfl, c1⟩ := h1 i hlt
      obtain ⟨b2, o2, rfl, c2⟩ := h2 i hlk
      have hE : ∀ a, wr.cell? a = w.cell? a := fun a => by rw [hw.out]; rfl
      rw [← hE] at c1 c2
      have i0 : (0 : Int) ≤ (i : Int) := Int.natCast_nonneg _
      have i1 : (i : Int) < (l.length : Int) := Int.ofNat_lt.2 hlt
      have i2 : (i : Int) < (k.length : Int) := Int.ofNat_lt.2 hlk
      by_cases hx : l[i] = k[i]
      · have htk' : Hid (l.take (i + 1) = k.take (i + 1)) := take_stepX htk.out hlt hlk hx
        rw [← hx] at c2
        generalize S l[i] = X at *
        clear hE hx hlen h1 h2
        go_wp2_with fail
        go_quiet (fail)
        go_wp2_with fail
        go_roundw
        case rel => exact ⟨i + 1, _, hlt, by simp, htk', by unfold Hid; rw [hw.out, World.drewN_drewN]⟩
        case measure => simp [intOf]; omega
      · have hne := strNeW hx
        have hno : Hid (¬ l = k) := ne_atX hlt hlk hx
        generalize S l[i] = X at *
        generalize S k[i] = Y at *
        clear hE hx hlen h1 h2
        go_wp2_with fail
        go_quiet (fail)
        go_wp2_with fail
        go_ret
        exact ⟨by rw [decide_eq_false hno.out]; rfl, _, by rw [hw.out, World.drewN_drewN]⟩
    · have hle : i = l.length := by omega
      subst hle
      have hyes : Hid (l = k) := (whole_eqX htk.out hlen)
      clear h1 h2 hlen
      go_wp2_with fail
      go_ret
      exact ⟨by rw [decide_eq_true hyes.out]; rfl, q, hw.out⟩

set_option maxRecDepth 100000 in
set_option maxHeartbeats 400000 in
theorem sameX_any (l k : List (List UInt8)) (a b : Option Addr) (c d : Nat) (w : World) (hl : l.length ≤ 9223372036854775807) (hk : k.length ≤ 9223372036854775807) (h1 : Row w a l) (h2 : Row w b k) :
    Calls Tryd.prog 18 #[.slice a l.length c, .slice b k.length d] w fun e w' => e = .returned (.bool (decide (l = k))) ∧ ∃ q, w' = w.drewN q := by
  by_cases hlen : l.length = k.length
  · exact sameX_loop l k a b c d w hl hk hlen h1 h2
  · have hno : Hid (¬ l = k) := fun q => hlen (by rw [q])
    have hb0 : ((l.length : Int) != (k.length : Int)) = true := by simp; omega
    clear hlen h1 h2
    go_enter Tryd.func18, Tryd.ntmps18
    go_wp2_with fail
    go_ret
    exact ⟨by rw [decide_eq_false hno.out]; rfl, 0, rfl⟩


set_option maxRecDepth 100000 in
set_option maxHeartbeats 2000000 in
theorem lawHas_any (zs : List Atr) (p : Option Addr) (pc : Nat) (y : Atr) (w : World) (hn : zs.length ≤ 1048576) (hl : ∀ z ∈ zs, z.l.length ≤ 1048576) (hy : y.l.length ≤ 1048576) (h : ARow w p zs) (hr : Row w y.a y.l) :
    Calls Tryd.prog 11 #[.slice p zs.length pc, .agg #[.string (S y.d), .string (S y.c), .slice y.a y.l.length y.n]] w fun e w' => e = .returned (.bool (zs.any fun z => decide (pl z = pl y))) ∧ Below w.heap.size w w' := by
  obtain ⟨yd, yc, ya, yn, yl⟩ := y
  dsimp only at *
  obtain ⟨Wa, hWa⟩ : ∃ W, w.alloc (.cells #[.string (S yd), .string (S yc), .slice ya yl.length yn] 32) = W := ⟨_, rfl⟩
  have pa : Box Wa w.heap.size 32 #[.string (S yd), .string (S yc), .slice ya yl.length yn] := by rw [← hWa]; exact Box.new _ _ _
  have hB : Below w.heap.size w Wa := by rw [← hWa]; exact (Below.refl _ _).alloc (Nat.le_refl _) _
  have h' : Hid (ARow Wa p zs ∧ Row Wa ya yl ∧ (∀ z ∈ zs, z.l.length ≤ 1048576) ∧ Box Wa w.heap.size 32 #[.string (S yd), .string (S yc), .slice ya yl.length yn] ∧ Below w.heap.size w Wa) := ⟨h.below hB, hr.below hB, hl, pa, hB⟩
  clear h hr hl pa hB
  go_enter Tryd.func11, Tryd.ntmps11
  go_wp2_with fail
  clear hWa
  go_loopw [5] (fun iv wr => ∃ i q : Nat, i ≤ zs.length ∧ iv = .int .i64 (i : Int) ∧ Hid (((zs.take i).any fun z => decide (pl z = pl ⟨yd, yc, ya, yn, yl⟩)) = false) ∧ Hid (wr = Wa.drewN q)) (fun iv _ => zs.length - (intOf iv).toNat)
  case atStart => exact ⟨0, 0, Nat.zero_le _, rfl, rfl, rfl⟩
  case round =>
    obtain ⟨i, q, hi, rfl, hA, hw⟩ := hrel
    have hbw : Below Wa.heap.size Wa wr := by rw [hw.out]; exact drewN_below _ _ _
    by_cases hlt : i < zs.length
    · obtain ⟨⟨b1, o1, rfl, c0, c1, c2⟩, r1⟩ := h'.out.1 i hlt
      have hzl := h'.out.2.2.1 _ (List.getElem_mem hlt)
      have htk : Hid (((zs.take (i + 1)).any fun z => decide (pl z = pl ⟨yd, yc, ya, yn, yl⟩)) = (((zs.take i).any fun z => decide (pl z = pl ⟨yd, yc, ya, yn, yl⟩)) || decide (pl zs[i] = pl ⟨yd, yc, ya, yn, yl⟩))) := by
        unfold Hid
        rw [List.take_succ_eq_append_getElem hlt, List.any_append]
        simp
      have hall : Hid (pl zs[i] = pl ⟨yd, yc, ya, yn, yl⟩ → (zs.any fun z => decide (pl z = pl ⟨yd, yc, ya, yn, yl⟩)) = true) := fun e => List.any_eq_true.2 ⟨_, List.getElem_mem hlt, by simpa using e⟩
      obtain ⟨⟨xd, xc, xa, xn, xl⟩, hx⟩ : ∃ x, zs[i] = x := ⟨_, rfl⟩
      rw [hx] at c0 c1 c2 r1 hzl htk hall
      dsimp only at c0 c1 c2 r1 hzl
      have hlt' : Hid (i < zs.length) := hlt
      rw [hA.out, Bool.false_or] at htk
      have bx := h'.out.2.2.2.1.below hbw
      obtain ⟨g0, _⟩ := bx.cell 0 (by simp)
      obtain ⟨g1, _⟩ := bx.cell 1 (by simp)
      obtain ⟨g2, _⟩ := bx.cell 2 (by simp)
      simp only [List.getElem_toArray, List.getElem_cons_zero, List.getElem_cons_succ] at g0 g1 g2
      have hS : ∀ n, Hid (Calls Tryd.prog 18 #[.slice xa xl.length xn, .slice ya yl.length yn] (wr.drewN n) fun e w' => e = .returned (.bool (decide (xl = yl))) ∧ ∃ m, w' = (wr.drewN n).drewN m) := fun n => by
        have hb : Below Wa.heap.size Wa (wr.drewN n) := hbw.trans (drewN_below _ _ _)
        exact sameX_any xl yl xa ya xn yn _ (by omega) (by omega) (r1.below hb) (h'.out.2.1.below hb)
      rw [← hbw.cell (World.block_lt_of_cell? Wa _ c0)] at c0
      rw [← hbw.cell (World.block_lt_of_cell? Wa _ c1)] at c1
      rw [← hbw.cell (World.block_lt_of_cell? Wa _ c2)] at c2
      have i0 : (0 : Int) ≤ (i : Int) := Int.natCast_nonneg _
      have i1 : (i : Int) < (zs.length : Int) := Int.ofNat_lt.2 hlt
      clear r1 hx hlt bx hbw
      by_cases e1 : xd = yd
      · subst e1
        by_cases e2 : xc = yc
        · subst e2
          obtain ⟨ans, hans⟩ : ∃ ans, decide (xl = yl) = ans := ⟨_, rfl⟩
          have hpl : Hid (decide (pl (⟨xd, xc, xa, xn, xl⟩ : Atr) = pl ⟨xd, xc, ya, yn, yl⟩) = ans) := by
            unfold Hid
            rw [← hans]
            simp [pl]
          have hS' : ∀ n, Hid (Calls Tryd.prog 18 #[.slice xa xl.length xn, .slice ya yl.length yn] (wr.drewN n) fun e w' => e = .returned (.bool ans) ∧ ∃ m, w' = (wr.drewN n).drewN m) := fun n => by
            have hh := (hS n).out
            rw [hans] at hh
            exact hh
          clear hS hans
          cases ans with
          | true =>
            have hyes : Hid ((zs.any fun z => decide (pl z = pl ⟨xd, xc, ya, yn, yl⟩)) = true) := hall.out (by simpa using hpl.out)
            clear hall hpl htk
            go_wp2_with fail
            go_quiet ((go_at_call 18; exact Calls.quiet_of (hS' _).out))
            clear hS' c0 c1 c2 g0 g1 g2
            go_wp2_with fail
            go_ret
            exact ⟨by rw [hyes.out]; rfl, h'.out.2.2.2.2.trans (by rw [hw.out]; exact (drewN_below _ _ _).trans (drewN_below _ _ _))⟩
          | false =>
            rw [hpl.out] at htk
            clear hall hpl
            go_wp2_with fail
            go_quiet ((go_at_call 18; exact Calls.quiet_of (hS' _).out))
            clear hS' c0 c1 c2 g0 g1 g2
            go_wp2_with fail
            go_roundw
            case rel => exact ⟨i + 1, _, hlt'.out, by simp, htk, by unfold Hid; rw [hw.out, World.drewN_drewN]⟩
            case measure => have := hlt'.out; simp [intOf]; omega
        · have hne := strNeW e2
          have hpl : decide (pl (⟨xd, xc, xa, xn, xl⟩ : Atr) = pl ⟨xd, yc, ya, yn, yl⟩) = false := by simp [pl, e2]
          rw [hpl] at htk
          clear hall hpl e2 hS
          generalize S xc = X at *
          generalize S yc = Y at *
          go_wp2_with fail
          go_quiet (fail)
          clear c0 c1 c2 g0 g1 g2
          go_wp2_with fail
          go_roundw
          case rel => exact ⟨i + 1, _, hlt'.out, by simp, htk, by unfold Hid; rw [hw.out, World.drewN_drewN]⟩
          case measure => have := hlt'.out; simp [intOf]; omega
      · have hne := strNeW e1
        have hpl : decide (pl (⟨xd, xc, xa, xn, xl⟩ : Atr) = pl ⟨yd, yc, ya, yn, yl⟩) = false := by simp [pl, e1]
        rw [hpl] at htk
        clear hall hpl e1 hS
        generalize S xd = X at *
        generalize S yd = Y at *
        go_wp2_with fail
        go_quiet (fail)
        clear c0 c1 c2 g0 g1 g2
        go_wp2_with fail
        go_roundw
        case rel => exact ⟨i + 1, _, hlt'.out, by simp, htk, by unfold Hid; rw [hw.out, World.drewN_drewN]⟩
        case measure => have := hlt'.out; simp [intOf]; omega
    · have e : i = zs.length := by omega
      subst e
      rw [List.take_length] at hA
      have k1 : ¬ (zs.length : Int) < (zs.length : Int) := by omega
      clear hbw
      go_wp2_with fail
      go_ret
      exact ⟨by rw [hA.out]; rfl, h'.out.2.2.2.2.trans (by rw [hw.out]; exact drewN_below _ _ _)⟩
end Go.Proofs.YtdeeegocjgikoaaDoor
