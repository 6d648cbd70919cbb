import Derived.Test.YtembeinglnojkaaDoorMgOwn
namespace Go.Proofs.YtembeinglnojkaaDoor
open Go.RowKit
set_option linter.unusedVariables false

set_option maxRecDepth 100000 in
set_option maxHeartbeats 1000000 in
theorem sameT_any (l : List (List UInt8)) (a b : Option Addr) (c d : Nat) (w : World) (hl : l.length ≤ 8796093021952) (h1 : Row w a l) (h2 : Row w b l) :
    Calls Tryd.prog 28 #[.slice a l.length c, .slice b l.length d] w fun e w' => e = .returned (.bool true) ∧ ∃ q, w' = w.drewN q := by
  go_enter Tryd.func28, Tryd.ntmps28
  go_wp2_with fail
  go_loopw [5] (fun iv wr => ∃ i q : Nat, i ≤ l.length ∧ iv = .int .i64 (i : Int) ∧ Hid (wr = w.drewN q)) (fun iv _ => l.length - (intOf iv).toNat)
  case atStart => exact ⟨0, 0, Nat.zero_le _, rfl, rfl⟩
  case round =>
    obtain ⟨i, q, hi, rfl, hw⟩ := hrel
    by_cases hlt : i < l.length
    · obtain ⟨b1, o1, rfl, c1⟩ := h1 i hlt
      obtain ⟨b2, o2, rfl, c2⟩ := h2 i hlt
      have hE : ∀ a, wr.cell? a = w.cell? a := fun a => by rw [hw.out]; rfl
      rw [← hE] at c1 c2
      have i0 : (0 : Int) ≤ (i : Int) := Int.natCast_nonneg _
      have i1 : (i : Int) < (l.length : Int) := Int.ofNat_lt.2 hlt
      generalize S l[i] = X at *
      clear hE h1 h2
      go_wp2_with fail
      go_quiet (fail)
      go_wp2_with fail
      go_roundw
      case rel => exact ⟨i + 1, _, hlt, by simp, by unfold Hid; rw [hw.out, World.drewN_drewN]⟩
      case measure => simp [intOf]; omega
    · have e : i = l.length := by omega
      subst e
      have k1 : ¬ (l.length : Int) < (l.length : Int) := by omega
      go_wp2_with fail
      go_ret
      exact ⟨rfl, _, hw.out⟩
theorem ne_ctl (c s : ByteArray) (x y : Bool) (W : World) :
    (binOp .neq 52 (.agg #[.string c, .bool x, .string s, .bool y]) (.agg #[.string c, .bool x, .string s, .bool y])).run Tryd.prog W = .ok (.bool false) W := by
  have hS : Tryd.prog.underlying 52 = some (.struct (Tryd.prog.fieldsOf 52)) := by kernel_rfl
  have hp : Tryd.prog.stoodInHeld 52 = false := by kernel_rfl
  rw [run_neq_struct, run_equalIn_struct _ _ _ _ _ hS hp]
  simp only [Program.fieldsOf, Tryd.underlying52]
  simp [Op.eqFields, go_sem]

set_option maxRecDepth 100000 in
set_option maxHeartbeats 1000000 in
theorem sameControls_any (l : List Ctl) (a b : Option Addr) (c d : Nat) (w : World) (hl : l.length ≤ 2932031007317) (h1 : GRow 4 oV w a l) (h2 : GRow 4 oV w b l) :
    Calls Tryd.prog 20 #[.slice a l.length c, .slice b l.length d] w fun e w' => e = .returned (.bool true) ∧ ∃ q, w' = w.drewN q := by
  have H : Hid (GRow 4 oV w a l ∧ GRow 4 oV w b l) := ⟨h1, h2⟩
  clear h1 h2
  go_enter Tryd.func20, Tryd.ntmps20
  go_wp2_with fail
  go_loopw [5] (fun iv wr => ∃ i q : Nat, i ≤ l.length ∧ iv = .int .i64 (i : Int) ∧ Hid (wr = w.drewN q)) (fun iv _ => l.length - (intOf iv).toNat)
  case atStart => exact ⟨0, 0, Nat.zero_le _, rfl, rfl⟩
  case round =>
    obtain ⟨i, q, hi, rfl, hw⟩ := hrel
    by_cases hlt : i < l.length
    · obtain ⟨b1, o1, rfl, p1⟩ := H.out.1 i hlt
      obtain ⟨b2, o2, rfl, p2⟩ := H.out.2 i hlt
      have hE : ∀ a, wr.cell? a = w.cell? a := fun a => by rw [hw.out]; rfl
      obtain ⟨⟨xo, xc, xv, xh⟩, hx⟩ : ∃ x, l[i] = x := ⟨_, rfl⟩
      rw [hx] at p1 p2
      obtain ⟨c0, c1, c2, c3⟩ : wr.cell? ⟨b1, o1 + i * 4, none⟩ = some (.string (S xo)) ∧ wr.cell? ⟨b1, o1 + i * 4 + 1, none⟩ = some (.bool xc) ∧ wr.cell? ⟨b1, o1 + i * 4 + 2, none⟩ = some (.string (S xv)) ∧ wr.cell? ⟨b1, o1 + i * 4 + 3, none⟩ = some (.bool xh) := by
        simp only [hE]
        exact ⟨p1 0 (by omega), p1 1 (by omega), p1 2 (by omega), p1 3 (by omega)⟩
      obtain ⟨d0, d1, d2, d3⟩ : wr.cell? ⟨b2, o2 + i * 4, none⟩ = some (.string (S xo)) ∧ wr.cell? ⟨b2, o2 + i * 4 + 1, none⟩ = some (.bool xc) ∧ wr.cell? ⟨b2, o2 + i * 4 + 2, none⟩ = some (.string (S xv)) ∧ wr.cell? ⟨b2, o2 + i * 4 + 3, none⟩ = some (.bool xh) := by
        simp only [hE]
        exact ⟨p2 0 (by omega), p2 1 (by omega), p2 2 (by omega), p2 3 (by omega)⟩
      have i0 : (0 : Int) ≤ (i : Int) := Int.natCast_nonneg _
      have i1 : (i : Int) < (l.length : Int) := Int.ofNat_lt.2 hlt
      have hlt' : Hid (i < l.length) := hlt
      generalize S xo = X at *
      generalize S xv = Y at *
      have hne := ne_ctl X Y xc xh
      clear hE p1 p2 hx hlt
      go_wp2_with fail
      go_quiet (fail)
      clear c0 c1 c2 c3 d0 d1 d2 d3
      go_wp2_with fail
      go_roundw
      case rel => exact ⟨i + 1, _, hlt'.out, by simp, by unfold Hid; rw [hw.out, World.drewN_drewN]⟩
      case measure => have := hlt'.out; simp [intOf]; omega
    · have e : i = l.length := by omega
      subst e
      have k1 : ¬ (l.length : Int) < (l.length : Int) := by omega
      go_wp2_with fail
      go_ret
      exact ⟨rfl, _, hw.out⟩

set_option maxRecDepth 100000 in
set_option maxHeartbeats 2000000 in
theorem sameAttrs_any (xs ys : List Att) (a b : Option Addr) (c d : Nat) (w : World) (hn : xs.length ≤ 2513169434843) (hl : ∀ x ∈ xs, x.l.length ≤ 8796093021952) (h1 : RdG 3 tV tT w a xs) (h2 : RdG 3 tV tT w b ys) (he : xs.map tP = ys.map tP) :
    Calls Tryd.prog 19 #[.slice a xs.length c, .slice b xs.length d] w fun e w' => e = .returned (.bool true) ∧ ∃ q, w' = w.drewN q := by
  have hlen' : Hid (ys.length = xs.length) := by
    have := congrArg List.length he
    unfold Hid
    simpa using this.symm
  have h1' : Hid (RdG 3 tV tT w a xs) := h1
  have h2' : Hid (RdG 3 tV tT w b ys) := h2
  have hl' : Hid (∀ x ∈ xs, x.l.length ≤ 8796093021952) := hl
  have he' : Hid (∀ i (hi : i < xs.length) (hj : i < ys.length), tP xs[i] = tP ys[i]) := fun i hi hj => by
    have h3 : (xs.map tP)[i]? = (ys.map tP)[i]? := by rw [he]
    simpa [hi, hj] using h3
  clear h1 h2 hl he
  go_enter Tryd.func19, Tryd.ntmps19
  go_wp2_with fail
  go_loopw [5] (fun iv wr => ∃ i q : Nat, i ≤ xs.length ∧ iv = .int .i64 (i : Int) ∧ Hid (wr = w.drewN q)) (fun iv _ => xs.length - (intOf iv).toNat)
  case atStart => exact ⟨0, 0, Nat.zero_le _, rfl, rfl⟩
  case round =>
    obtain ⟨i, q, hi, rfl, hw⟩ := hrel
    by_cases hlt : i < xs.length
    · have hlj : i < ys.length := by rw [hlen'.out]; exact hlt
      obtain ⟨b1, o1, rfl, p1⟩ := h1'.out.1 i hlt
      obtain ⟨b2, o2, rfl, p2⟩ := h2'.out.1 i hlj
      have r1 := h1'.out.2 _ (List.getElem_mem hlt)
      have r2 := h2'.out.2 _ (List.getElem_mem hlj)
      have hxl := hl'.out _ (List.getElem_mem hlt)
      have hpl := he'.out i hlt hlj
      obtain ⟨⟨xd, xc, xa, xn, xl⟩, hx⟩ : ∃ x, xs[i] = x := ⟨_, rfl⟩
      obtain ⟨⟨yd, yc, ya, yn, yl⟩, hy⟩ : ∃ y, ys[i] = y := ⟨_, rfl⟩
      rw [hx] at p1 r1 hxl hpl
      rw [hy] at p2 r2 hpl
      simp only [tP, Prod.mk.injEq] at hpl
      obtain ⟨rfl, rfl, rfl⟩ := hpl
      dsimp only [tT] at r1 r2 hxl
      have hE : ∀ a, wr.cell? a = w.cell? a := fun a => by rw [hw.out]; rfl
      obtain ⟨c0, c1, c2⟩ : wr.cell? ⟨b1, o1 + i * 3, none⟩ = some (.string (S xd)) ∧ wr.cell? ⟨b1, o1 + i * 3 + 1, none⟩ = some (.string (S xc)) ∧ wr.cell? ⟨b1, o1 + i * 3 + 2, none⟩ = some (.slice xa xl.length xn) := by
        simp only [hE]
        exact ⟨p1 0 (by omega), p1 1 (by omega), p1 2 (by omega)⟩
      obtain ⟨d0, d1, d2⟩ : wr.cell? ⟨b2, o2 + i * 3, none⟩ = some (.string (S xd)) ∧ wr.cell? ⟨b2, o2 + i * 3 + 1, none⟩ = some (.string (S xc)) ∧ wr.cell? ⟨b2, o2 + i * 3 + 2, none⟩ = some (.slice ya xl.length yn) := by
        simp only [hE]
        exact ⟨p2 0 (by omega), p2 1 (by omega), p2 2 (by omega)⟩
      have hS : ∀ n, Hid (Calls Tryd.prog 28 #[.slice xa xl.length xn, .slice ya xl.length yn] (wr.drewN n) fun e w' => e = .returned (.bool true) ∧ ∃ m, w' = (wr.drewN n).drewN m) := fun n => by
        have hb : Below w.heap.size w (wr.drewN n) := by rw [hw.out]; exact drewN_below _ _ _ |>.trans (drewN_below _ _ _)
        exact sameT_any xl xa ya xn yn _ (by omega) (r1.below hb) (r2.below hb)
      have i0 : (0 : Int) ≤ (i : Int) := Int.natCast_nonneg _
      have i1 : (i : Int) < (xs.length : Int) := Int.ofNat_lt.2 hlt
      have hlt' : Hid (i < xs.length) := hlt
      clear hE r1 r2 hx hy hlj hlt p1 p2
      generalize S xd = X1 at *
      generalize S xc = X2 at *
      go_wp2_with fail
      go_quiet ((go_at_call 28; exact Calls.quiet_of (hS _).out))
      clear hS
      go_wp2_with fail
      go_quiet (fail)
      clear c0 c1 c2 d0 d1 d2
      go_wp2_with fail
      go_roundw
      case rel => exact ⟨i + 1, _, hlt'.out, by simp, by unfold Hid; rw [hw.out, World.drewN_drewN]⟩
      case measure => have := hlt'.out; simp [intOf]; omega
    · have e : i = xs.length := by omega
      subst e
      have k1 : ¬ (xs.length : Int) < (xs.length : Int) := by omega
      go_wp2_with fail
      go_ret
      exact ⟨rfl, _, hw.out⟩

set_option maxRecDepth 100000 in
set_option maxHeartbeats 2000000 in
theorem sameChanges_any (xs ys : List Chg) (a b : Option Addr) (c d : Nat) (w : World) (hn : xs.length ≤ 2932031007317) (hl : ∀ x ∈ xs, x.l.length ≤ 8796093021952) (h1 : RdG 3 cV cT w a xs) (h2 : RdG 3 cV cT w b ys) (he : xs.map cP = ys.map cP) :
    Calls Tryd.prog 30 #[.slice a xs.length c, .slice b xs.length d] w fun e w' => e = .returned (.bool true) ∧ ∃ q, w' = w.drewN q := by
  have hlen' : Hid (ys.length = xs.length) := by
    have := congrArg List.length he
    unfold Hid
    simpa using this.symm
  have h1' : Hid (RdG 3 cV cT w a xs) := h1
  have h2' : Hid (RdG 3 cV cT w b ys) := h2
  have hl' : Hid (∀ x ∈ xs, x.l.length ≤ 8796093021952) := hl
  have he' : Hid (∀ i (hi : i < xs.length) (hj : i < ys.length), cP xs[i] = cP ys[i]) := fun i hi hj => by
    have h3 : (xs.map cP)[i]? = (ys.map cP)[i]? := by rw [he]
    simpa [hi, hj] using h3
  clear h1 h2 hl he
  go_enter Tryd.func30, Tryd.ntmps30
  go_wp2_with fail
  go_loopw [5] (fun iv wr => ∃ i q : Nat, i ≤ xs.length ∧ iv = .int .i64 (i : Int) ∧ Hid (wr = w.drewN q)) (fun iv _ => xs.length - (intOf iv).toNat)
  case atStart => exact ⟨0, 0, Nat.zero_le _, rfl, rfl⟩
  case round =>
    obtain ⟨i, q, hi, rfl, hw⟩ := hrel
    by_cases hlt : i < xs.length
    · have hlj : i < ys.length := by rw [hlen'.out]; exact hlt
      obtain ⟨b1, o1, rfl, p1⟩ := h1'.out.1 i hlt
      obtain ⟨b2, o2, rfl, p2⟩ := h2'.out.1 i hlj
      have r1 := h1'.out.2 _ (List.getElem_mem hlt)
      have r2 := h2'.out.2 _ (List.getElem_mem hlj)
      have hxl := hl'.out _ (List.getElem_mem hlt)
      have hpl := he'.out i hlt hlj
      obtain ⟨⟨xk, xd, xa, xn, xl⟩, hx⟩ : ∃ x, xs[i] = x := ⟨_, rfl⟩
      obtain ⟨⟨yk, yd, ya, yn, yl⟩, hy⟩ : ∃ y, ys[i] = y := ⟨_, rfl⟩
      rw [hx] at p1 r1 hxl hpl
      rw [hy] at p2 r2 hpl
      simp only [cP, Prod.mk.injEq] at hpl
      obtain ⟨rfl, rfl, rfl⟩ := hpl
      dsimp only [cT] at r1 r2 hxl
      have hE : ∀ a, wr.cell? a = w.cell? a := fun a => by rw [hw.out]; rfl
      obtain ⟨c0, c1, c2⟩ : wr.cell? ⟨b1, o1 + i * 3, none⟩ = some (.int .i64 xk) ∧ wr.cell? ⟨b1, o1 + i * 3 + 1, none⟩ = some (.string (S xd)) ∧ wr.cell? ⟨b1, o1 + i * 3 + 2, none⟩ = some (.slice xa xl.length xn) := by
        simp only [hE]
        exact ⟨p1 0 (by omega), p1 1 (by omega), p1 2 (by omega)⟩
      obtain ⟨d0, d1, d2⟩ : wr.cell? ⟨b2, o2 + i * 3, none⟩ = some (.int .i64 xk) ∧ wr.cell? ⟨b2, o2 + i * 3 + 1, none⟩ = some (.string (S xd)) ∧ wr.cell? ⟨b2, o2 + i * 3 + 2, none⟩ = some (.slice ya xl.length yn) := by
        simp only [hE]
        exact ⟨p2 0 (by omega), p2 1 (by omega), p2 2 (by omega)⟩
      have hS : ∀ n, Hid (Calls Tryd.prog 28 #[.slice xa xl.length xn, .slice ya xl.length yn] (wr.drewN n) fun e w' => e = .returned (.bool true) ∧ ∃ m, w' = (wr.drewN n).drewN m) := fun n => by
        have hb : Below w.heap.size w (wr.drewN n) := by rw [hw.out]; exact drewN_below _ _ _ |>.trans (drewN_below _ _ _)
        exact sameT_any xl xa ya xn yn _ (by omega) (r1.below hb) (r2.below hb)
      have i0 : (0 : Int) ≤ (i : Int) := Int.natCast_nonneg _
      have i1 : (i : Int) < (xs.length : Int) := Int.ofNat_lt.2 hlt
      have hlt' : Hid (i < xs.length) := hlt
      clear hE r1 r2 hx hy hlj hlt p1 p2
      generalize S xd = X1 at *
      go_wp2_with fail
      go_quiet ((go_at_call 28; exact Calls.quiet_of (hS _).out))
      clear hS
      go_wp2_with fail
      go_quiet (fail)
      clear c0 c1 c2 d0 d1 d2
      go_wp2_with fail
      go_roundw
      case rel => exact ⟨i + 1, _, hlt'.out, by simp, by unfold Hid; rw [hw.out, World.drewN_drewN]⟩
      case measure => have := hlt'.out; simp [intOf]; omega
    · have e : i = xs.length := by omega
      subst e
      have k1 : ¬ (xs.length : Int) < (xs.length : Int) := by omega
      go_wp2_with fail
      go_ret
      exact ⟨rfl, _, hw.out⟩
end Go.Proofs.YtembeinglnojkaaDoor
