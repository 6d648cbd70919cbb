import Derived.Test.YtddkefjcpgdomabFrPlM
namespace Go.Proofs.Ytddkefjcpgdomab
open Go.RowKit
open FrMath (Hdr lb bd within Out ends cut Cut)

/-- A step that asks. -/
theorem step_ask (fb gb : Nat) (lim : Int) (b : List UInt8) (v : Value) (w : World) (H n : Nat) (kd : Int) (c : ByteArray) (hkd : kd ≠ 1) (s : FSt fb lim b v w H) (hR : Cells w gb (rfL lim (S b) n)) (hb : b.length ≤ 4194304) :
    Calls Try.prog 17 #[.pointer (some ⟨fb, 0, none⟩), .pointer (some ⟨gb, 0, none⟩), .agg #[.int .i64 kd, .string c]] w fun e w' => e = .returned (.bool true) ∧ Below w.heap.size w w' := by
  have hS : (S b).data.toList = b := S_l b
  have hz : (S b).size ≤ 4194304 := by rw [S_size]; exact hb
  have hfb : fb < w.heap.size := s.lt
  have hgb : gb < w.heap.size := hR.lt
  have fs : ∀ W, Below w.heap.size w W → FSt fb lim b v W H := fun W h => s.of (h.block fb hfb) (fun x hx => h.block x (s.high x hx).2) h.size
  have fr : ∀ W, Below w.heap.size w W → Cells W gb (rfL lim (S b) n) := fun W h => hR.of_block (h.block gb hgb)
  have d1 : (kd == 1) = false := by rw [beq_eq_false_iff_ne]; exact hkd
  by_cases h2 : kd = 2
  · subst h2
    have A1 : ∀ W, Hid (Below w.heap.size w W → Calls Try.prog 11 #[.pointer (some ⟨fb, 0, none⟩)] W fun e w' => e = .returned (.int .i64 ((if (Cut lim b).er = 0 then b.length - (Cut lim b).at_ else 0 : Nat) : Int)) ∧ W = w') := fun W h => fstHeld fb lim b v W H (fs W h)
    have A2 : ∀ W, Hid (Below w.heap.size w W → Calls Try.prog 30 #[.pointer (some ⟨gb, 0, none⟩)] W fun e w' => e = .returned (.int .i64 ((if (Cut lim b).er = 0 then b.length - (Cut lim b).at_ else 0 : Nat) : Int)) ∧ Below W.heap.size W w') := fun W h => by
      have := refHeld_any gb lim (S b) n W (fr W h) hz
      rw [hS, S_size] at this
      exact this
    generalize (if (Cut lim b).er = 0 then b.length - (Cut lim b).at_ else 0) = q at *
    have BA : Hid (Below w.heap.size w (w.alloc (.cells #[.int .i64 2, .string c] 50))) := (Below.refl _ _).alloc (Nat.le_refl _) _
    clear fs fr s hR hS hz hb hfb hgb d1 hkd
    go_enter Try.func17, Try.ntmps17
    go_wp2_with fail
    refine ((A1 _).out BA.out).mono ?_
    rintro r w1 ⟨rfl, rfl⟩
    go_wp2_with fail
    refine ((A2 _).out BA.out).mono ?_
    rintro r w2 ⟨rfl, hb2⟩
    go_wp2_with fail
    go_ret
    exact ⟨rfl, BA.out.trans (hb2.mono BA.out.size)⟩
  by_cases h3 : kd = 3
  · subst h3
    have A1 : ∀ W, Hid (Below w.heap.size w W → Calls Try.prog 12 #[.pointer (some ⟨fb, 0, none⟩)] W fun e w' => e = .returned (.int .i64 ((if (Cut lim b).er = 0 then needN lim (b.drop (Cut lim b).at_) else 0 : Nat) : Int)) ∧ Below W.heap.size W w') := fun W h => fstNeed fb lim b v W H (fs W h) hb
    have A2 : ∀ W, Hid (Below w.heap.size w W → Calls Try.prog 31 #[.pointer (some ⟨gb, 0, none⟩)] W fun e w' => e = .returned (.int .i64 ((if (Cut lim b).er = 0 then needN lim (b.drop (Cut lim b).at_) else 0 : Nat) : Int)) ∧ Below W.heap.size W w') := fun W h => by
      have := refNeedOf_any gb lim (S b) n W (fr W h) hz
      rw [hS] at this
      exact this
    generalize (if (Cut lim b).er = 0 then needN lim (b.drop (Cut lim b).at_) else 0) = q at *
    have BA : Hid (Below w.heap.size w (w.alloc (.cells #[.int .i64 3, .string c] 50))) := (Below.refl _ _).alloc (Nat.le_refl _) _
    clear fs fr s hR hS hz hb hfb hgb d1 hkd h2
    go_enter Try.func17, Try.ntmps17
    go_wp2_with fail
    refine ((A1 _).out BA.out).mono ?_
    rintro r w1 ⟨rfl, hb1⟩
    have B1 := BA.out.trans (hb1.mono BA.out.size)
    clear hb1 BA
    go_wp2_with fail
    refine ((A2 _).out B1).mono ?_
    rintro r w2 ⟨rfl, hb2⟩
    go_wp2_with fail
    go_ret
    exact ⟨rfl, B1.trans (hb2.mono B1.size)⟩
  by_cases h4 : kd = 4
  · subst h4
    have A1 : ∀ W, Hid (Below w.heap.size w W → Calls Try.prog 13 #[.pointer (some ⟨fb, 0, none⟩)] W fun e w' => e = .returned (.tuple #[.int .i64 ((Cut lim b).er : Int), .int .i64 ((if (Cut lim b).er = 0 then 0 else (Cut lim b).at_ : Nat) : Int)]) ∧ Below W.heap.size W w') := fun W h => fstFault fb lim b v W H (fs W h)
    have A2 : ∀ W, Hid (Below w.heap.size w W → Calls Try.prog 32 #[.pointer (some ⟨gb, 0, none⟩)] W fun e w' => e = .returned (.tuple #[.int .i64 ((Cut lim b).er : Int), .int .i64 ((if (Cut lim b).er = 0 then 0 else (Cut lim b).at_ : Nat) : Int)]) ∧ Below W.heap.size W w') := fun W h => by
      have := refFault_any gb lim (S b) n W (fr W h) hz
      rw [hS] at this
      exact this
    generalize (if (Cut lim b).er = 0 then 0 else (Cut lim b).at_) = q at *
    generalize (Cut lim b).er = er at *
    have BA : Hid (Below w.heap.size w (w.alloc (.cells #[.int .i64 4, .string c] 50))) := (Below.refl _ _).alloc (Nat.le_refl _) _
    clear fs fr s hR hS hz hb hfb hgb d1 hkd h2 h3
    go_enter Try.func17, Try.ntmps17
    go_wp2_with fail
    refine ((A1 _).out BA.out).mono ?_
    rintro r w1 ⟨rfl, hb1⟩
    have B1 := BA.out.trans (hb1.mono BA.out.size)
    clear hb1 BA
    go_wp2_with fail
    refine ((A2 _).out B1).mono ?_
    rintro r w2 ⟨rfl, hb2⟩
    go_wp2_with fail
    go_ret
    exact ⟨rfl, B1.trans (hb2.mono B1.size)⟩
  have d2 : (kd == 2) = false := by rw [beq_eq_false_iff_ne]; exact h2
  have d3 : (kd == 3) = false := by rw [beq_eq_false_iff_ne]; exact h3
  have d4 : (kd == 4) = false := by rw [beq_eq_false_iff_ne]; exact h4
  clear fs fr s hR hS hz hb hfb hgb
  go_enter Try.func17, Try.ntmps17
  go_wp2_with fail
  go_ret
  exact ⟨rfl, (Below.refl _ _).alloc (Nat.le_refl _) _⟩
end Go.Proofs.Ytddkefjcpgdomab
