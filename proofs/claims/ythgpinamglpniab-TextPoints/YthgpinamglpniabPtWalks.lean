import Derived.Test.YthgpinamglpniabPtMath
import Derived.Test.YthgpinamglpniabBytes
import Derived.Test.YthgpinamglpniabChkLoop
import Derived.Great.BuildSlice
namespace Go.Proofs.Ythgpinamglpniab
open Go.RowKit
open TextMath (wd nd wr St check)

theorem need_any (n : Nat) (w : World) : Calls Try.prog 6 #[.int .i64 (n : Int)] w fun e w' => e = .returned (.int .i64 ((nd n : Nat) : Int)) ∧ w' = w := by
  rcases TextMath.nd_cases n with ⟨e, h⟩ | ⟨e, h, h'⟩ | ⟨e, h, h'⟩ | ⟨e, h⟩
  · have d1 : decide ((n : Int) < 128) = true := by simp; omega
    rw [e]
    clear e h
    go_enter Try.func6, Try.ntmps6
    go_wp2
    go_ret
    exact ⟨rfl, rfl⟩
  · have d1 : decide ((n : Int) < 128) = false := by simp; omega
    have d2 : decide ((n : Int) < 2048) = true := by simp; omega
    rw [e]
    clear e h h'
    go_enter Try.func6, Try.ntmps6
    go_wp2
    go_ret
    exact ⟨rfl, rfl⟩
  · have d1 : decide ((n : Int) < 128) = false := by simp; omega
    have d2 : decide ((n : Int) < 2048) = false := by simp; omega
    have d3 : decide ((n : Int) < 65536) = true := by simp; omega
    rw [e]
    clear e h h'
    go_enter Try.func6, Try.ntmps6
    go_wp2
    go_ret
    exact ⟨rfl, rfl⟩
  · have d1 : decide ((n : Int) < 128) = false := by simp; omega
    have d2 : decide ((n : Int) < 2048) = false := by simp; omega
    have d3 : decide ((n : Int) < 65536) = false := by simp; omega
    rw [e]
    clear e h
    go_enter Try.func6, Try.ntmps6
    go_wp2
    go_ret
    exact ⟨rfl, rfl⟩

/-- A new row of bytes, turned into a string. -/
theorem conv_new {P : Program} (W : World) (src dst e : TypeId) (l : List UInt8) (cs : Array Value) (n : Nat) (hc : cs = (bv l).toArray) (hn : n = l.length) (hs : P.underlying src = some (.slice e)) (he : P.underlying e = some (.int .u8)) (hd : P.underlying dst = some .string) :
    (convert src dst (.slice (some ⟨W.heap.size, 0, none⟩) n n)).run P (W.alloc (.cells cs e)) = .ok (.string (S l)) (W.alloc (.cells cs e)) := by
  subst hc
  refine conv_back _ src dst e W.heap.size n n l hs he hd hn ?_
  intro j hj
  rw [World.cell?_alloc_mark, World.frozen?_alloc_mark]
  simp [bv, hj]

theorem byteIs (n : Int) (m : Nat) (h : n = m) : IntKind.u8.wrap n = ((UInt8.ofNat m).toNat : Int) := by
  subst h
  rw [UInt8.toNat_ofNat']
  simp [IntKind.wrap, IntKind.bits, IntKind.signed]

set_option maxHeartbeats 2000000 in
theorem wide_any (n k : Nat) (w : World) (hn : n < 2097152) (h1 : nd n ≤ k) (h4 : k ≤ 4) :
    Calls Try.prog 7 #[.int .i64 (n : Int), .int .i64 (k : Int)] w fun e w' => e = .returned (.string (S (wd n k))) ∧ Below w.heap.size w w' := by
  have hc := TextMath.nd_cases n
  have hk : k = 1 ∨ k = 2 ∨ k = 3 ∨ k = 4 := by omega
  have n0 : (0 : Int) ≤ (n : Int) := by omega
  have n1 : (n : Int) < 2097152 := by omega
  rcases hk with rfl | rfl | rfl | rfl
  · have e1 := byteIs (n : Int) n rfl
    have hcv := conv_new (P := Try.prog) w 34 9 5 (wd n 1) #[.int .u8 ((UInt8.ofNat n).toNat : Int)] 1 (by simp [wd, bv]) rfl Try.underlying34 Try.underlying5 Try.underlying9
    clear hc h1 h4
    generalize ((UInt8.ofNat n).toNat : Int) = x1 at *
    go_enter Try.func7, Try.ntmps7
    go_wp2
    go_ret
    exact ⟨rfl, (Below.refl _ _).alloc (Nat.le_refl _) _⟩
  · have e1 := byteIs (192 + (n : Int) / 64) (192 + n / 64) (by omega)
    have e2 := byteIs (128 + (n : Int) % 64) (128 + n % 64) (by omega)
    have hcv := conv_new (P := Try.prog) w 34 9 5 (wd n 2) #[.int .u8 ((UInt8.ofNat (192 + n / 64)).toNat : Int), .int .u8 ((UInt8.ofNat (128 + n % 64)).toNat : Int)] 2 (by simp [wd, bv]) rfl Try.underlying34 Try.underlying5 Try.underlying9
    clear hc h1 h4
    generalize ((UInt8.ofNat (192 + n / 64)).toNat : Int) = x1 at *
    generalize ((UInt8.ofNat (128 + n % 64)).toNat : Int) = x2 at *
    go_enter Try.func7, Try.ntmps7
    go_wp2
    go_ret
    exact ⟨rfl, (Below.refl _ _).alloc (Nat.le_refl _) _⟩
  · have e1 := byteIs (224 + (n : Int) / 4096) (224 + n / 4096) (by omega)
    have e2 := byteIs (128 + (n : Int) / 64 % 64) (128 + n / 64 % 64) (by omega)
    have e3 := byteIs (128 + (n : Int) % 64) (128 + n % 64) (by omega)
    have hcv := conv_new (P := Try.prog) w 34 9 5 (wd n 3) #[.int .u8 ((UInt8.ofNat (224 + n / 4096)).toNat : Int), .int .u8 ((UInt8.ofNat (128 + n / 64 % 64)).toNat : Int), .int .u8 ((UInt8.ofNat (128 + n % 64)).toNat : Int)] 3 (by simp [wd, bv]) rfl Try.underlying34 Try.underlying5 Try.underlying9
    clear hc h1 h4
    generalize ((UInt8.ofNat (224 + n / 4096)).toNat : Int) = x1 at *
    generalize ((UInt8.ofNat (128 + n / 64 % 64)).toNat : Int) = x2 at *
    generalize ((UInt8.ofNat (128 + n % 64)).toNat : Int) = x3 at *
    go_enter Try.func7, Try.ntmps7
    go_wp2
    go_ret
    exact ⟨rfl, (Below.refl _ _).alloc (Nat.le_refl _) _⟩
  · have e1 := byteIs (240 + (n : Int) / 262144) (240 + n / 262144) (by omega)
    have e2 := byteIs (128 + (n : Int) / 4096 % 64) (128 + n / 4096 % 64) (by omega)
    have e3 := byteIs (128 + (n : Int) / 64 % 64) (128 + n / 64 % 64) (by omega)
    have e4 := byteIs (128 + (n : Int) % 64) (128 + n % 64) (by omega)
    have hcv := conv_new (P := Try.prog) w 34 9 5 (wd n 4) #[.int .u8 ((UInt8.ofNat (240 + n / 262144)).toNat : Int), .int .u8 ((UInt8.ofNat (128 + n / 4096 % 64)).toNat : Int), .int .u8 ((UInt8.ofNat (128 + n / 64 % 64)).toNat : Int), .int .u8 ((UInt8.ofNat (128 + n % 64)).toNat : Int)] 4 (by simp [wd, bv]) rfl Try.underlying34 Try.underlying5 Try.underlying9
    clear hc h1 h4
    generalize ((UInt8.ofNat (240 + n / 262144)).toNat : Int) = x1 at *
    generalize ((UInt8.ofNat (128 + n / 4096 % 64)).toNat : Int) = x2 at *
    generalize ((UInt8.ofNat (128 + n / 64 % 64)).toNat : Int) = x3 at *
    generalize ((UInt8.ofNat (128 + n % 64)).toNat : Int) = x4 at *
    go_enter Try.func7, Try.ntmps7
    go_wp2
    go_ret
    exact ⟨rfl, (Below.refl _ _).alloc (Nat.le_refl _) _⟩
end Go.Proofs.Ythgpinamglpniab
