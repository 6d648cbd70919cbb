import Derived.Test.YtgfonnjblbpogaaBhLong
namespace Go.Proofs.Ytgfonnjblbpogaa
open Go.RowKit
set_option linter.unusedVariables false

theorem tag_wrap (c t : Nat) (hc : c ≤ 3) (ht : t ≤ 30) : wrap64 ((c : Int) * 64) = (c : Int) * 64 ∧ wrap64 ((c : Int) * 64 + (t : Int)) = (c : Int) * 64 + (t : Int) ∧ wrap64 ((c : Int) * 64 + (t : Int) + 32) = (c : Int) * 64 + (t : Int) + 32 := by
  unfold wrap64
  omega
theorem fb_plain (c t : Nat) (hc : c ≤ 3) (ht : t ≤ 30) : (c : Int) * 64 + (t : Int) = ((fb c false t).toNat : Int) := by rw [fb_n c false t hc ht]; simp
theorem fb_made (c t : Nat) (hc : c ≤ 3) (ht : t ≤ 30) : (c : Int) * 64 + (t : Int) + 32 = ((fb c true t).toNat : Int) := by rw [fb_n c true t hc ht]; simp; omega
theorem byte_n (n : Nat) (h : n < 256) : (n : Int) = ((UInt8.ofNat n).toNat : Int) := by rw [UInt8.toNat_ofNat']; omega
/-- A text of two bytes, of one. -/
theorem two_back (V : World) (g : Nat) (hg : g = V.heap.size) (x y : UInt8) : (convert 50 9 (.slice (some ⟨g, 0, none⟩) 2 2)).run Try.prog (V.alloc (.cells #[.int .u8 (x.toNat : Int), .int .u8 (y.toNat : Int)] 5)) = .ok (.string (S [x, y])) (V.alloc (.cells #[.int .u8 (x.toNat : Int), .int .u8 (y.toNat : Int)] 5)) := by
  subst hg
  refine conv_back (P := Try.prog) _ _ _ _ V.heap.size 2 2 [x, y] Try.underlying50 Try.underlying5 Try.underlying9 rfl ?_
  intro j hj
  have : j = 0 ∨ j = 1 := by simp at hj; omega
  rcases this with rfl | rfl <;> simp [go_sem]
theorem one_back (V : World) (g : Nat) (hg : g = V.heap.size) (x : UInt8) : (convert 50 9 (.slice (some ⟨g, 0, none⟩) 1 1)).run Try.prog (V.alloc (.cells #[.int .u8 (x.toNat : Int)] 5)) = .ok (.string (S [x])) (V.alloc (.cells #[.int .u8 (x.toNat : Int)] 5)) := by
  subst hg
  refine conv_back (P := Try.prog) _ _ _ _ V.heap.size 1 1 [x] Try.underlying50 Try.underlying5 Try.underlying9 rfl ?_
  intro j hj
  have : j = 0 := by simp at hj; omega
  subst this
  simp [go_sem]
set_option maxRecDepth 100000 in
set_option maxHeartbeats 1000000 in
theorem long_zero (d : Int) (c : Nat) (m : Bool) (t : Nat) (s : ByteArray) (len : Nat) (hc : c ≤ 3) (ht : t ≤ 30) (hl : len < 128) (w : World) :
    Calls Try.prog 34 #[.agg #[.int .i64 d, .int .i64 (c : Int), .bool m, .int .i64 (t : Int), .string s], .int .i64 (len : Int), .int .i64 0] w fun e w' => e = .returned (.string (S (hdrL c m t len 0))) ∧ Below w.heap.size w w' := by
  obtain ⟨t1, t2, t3⟩ := tag_wrap c t hc ht
  have e1 := fb_plain c t hc ht
  have e2 := fb_made c t hc ht
  have e3 := byte_n len (by omega)
  cases m
  · have hh : Hid (hdrL c false t len 0 = [fb c false t, UInt8.ofNat len]) := rfl
    have e1' : Hid ((c : Int) * 64 + (t : Int) = ((fb c false t).toNat : Int)) := e1
    have e3' : Hid ((len : Int) = ((UInt8.ofNat len).toNat : Int)) := e3
    clear e1 e2 e3
    go_enter Try.func34, Try.ntmps34
    go_wp2_with fail
    rw [show (Value.int IntKind.u8 ((c : Int) * 64 + (t : Int))) = Value.int IntKind.u8 ((fb c false t).toNat : Int) from by rw [e1'.out], show (Value.int IntKind.u8 (len : Int)) = Value.int IntKind.u8 ((UInt8.ofNat len).toNat : Int) from by rw [← e3'.out], two_back _ _ (by simp)]
    go_wp2_with fail
    go_ret
    exact ⟨by rw [hh.out]; rfl, ((Below.refl _ _).alloc (Nat.le_refl _) _).alloc (by simp) _⟩
  · have hh : Hid (hdrL c true t len 0 = [fb c true t, UInt8.ofNat len]) := rfl
    have e2' : Hid ((c : Int) * 64 + (t : Int) + 32 = ((fb c true t).toNat : Int)) := e2
    have e3' : Hid ((len : Int) = ((UInt8.ofNat len).toNat : Int)) := e3
    clear e1 e2 e3
    go_enter Try.func34, Try.ntmps34
    go_wp2_with fail
    rw [show (Value.int IntKind.u8 ((c : Int) * 64 + (t : Int) + 32)) = Value.int IntKind.u8 ((fb c true t).toNat : Int) from by rw [e2'.out], show (Value.int IntKind.u8 (len : Int)) = Value.int IntKind.u8 ((UInt8.ofNat len).toNat : Int) from by rw [← e3'.out], two_back _ _ (by simp)]
    go_wp2_with fail
    go_ret
    exact ⟨by rw [hh.out]; rfl, ((Below.refl _ _).alloc (Nat.le_refl _) _).alloc (by simp) _⟩
theorem beN_ahead : ∀ (j n : Nat), beN (j + 1) n = UInt8.ofNat (n / 256 ^ j % 256) :: beN j n
  | 0, n => by simp [beN]
  | j + 1, n => by
    have ih := beN_ahead j (n / 256)
    rw [beN, ih, Nat.div_div_eq_div_mul, ← Nat.pow_succ', List.cons_append]
    rfl
end Go.Proofs.Ytgfonnjblbpogaa
