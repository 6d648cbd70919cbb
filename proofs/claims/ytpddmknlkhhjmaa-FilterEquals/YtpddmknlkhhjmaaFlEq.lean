import Derived.Test.YtpddmknlkhhjmaaFlBas
namespace Go.Proofs.Ytpddmknlkhhjmaa
open Go.RowKit
set_option linter.unusedVariables false

set_option maxHeartbeats 1000000 in
theorem slicesEqual_loop (l k : List (List UInt8)) (a b : Option Addr) (c d : Nat) (w : World) (hl : l.length ≤ 9223372036854775807) (hk : k.length ≤ 9223372036854775807) (hlen : l.length = k.length) (h1 : Row w a l) (h2 : Row w b k) :
    Calls Try.prog 11 #[.slice a l.length c, .slice b k.length d] w fun e w' => e = .returned (.bool (decide (l = k))) ∧ ∃ q, w' = w.drewN q := by
  have hlen' : Hid (l.length = k.length) := hlen
  have hb0 : ((l.length : Int) != (k.length : Int)) = false := by rw [hlen]; simp
  go_enter Try.func11, Try.ntmps11
  clear hlen
  go_wp2_with fail
  go_loopw [13] (fun iv wr => ∃ i q : Nat, i ≤ l.length ∧ iv = .int .i64 (i : Int) ∧ Hid (l.take i = k.take i) ∧ Hid (wr = w.drewN q)) (fun iv _ => l.length - (intOf iv).toNat)
  case atStart => exact ⟨0, 0, Nat.zero_le _, rfl, by unfold Hid; simp, rfl⟩
  case round =>
    obtain ⟨i, q, hi, rfl, htk, hw⟩ := hrel
    have hlen := hlen'.out
    by_cases hlt : i < l.length
    · have hlk : i < k.length := by omega
      obtain ⟨b1, o1, rfl, c1⟩ := h1 i hlt
      obtain ⟨b2, o2, rfl, c2⟩ := h2 i hlk
      have hE : ∀ a, wr.cell? a = w.cell? a := fun a => by rw [hw.out]; rfl
      rw [← hE] at c1 c2
      have i0 : (0 : Int) ≤ (i : Int) := Int.natCast_nonneg _
      have i1 : (i : Int) < (l.length : Int) := Int.ofNat_lt.2 hlt
      have i2 : (i : Int) < (k.length : Int) := Int.ofNat_lt.2 hlk
      by_cases hx : l[i] = k[i]
      · have htk' : Hid (l.take (i + 1) = k.take (i + 1)) := take_step htk.out hlt hlk hx
        rw [← hx] at c2
        generalize S l[i] = X at *
        clear hE hx hlen h1 h2
        go_wp2_with fail
        go_quiet (fail)
        go_wp2_with fail
        go_roundw
        case rel => exact ⟨i + 1, _, hlt, by simp, htk', by unfold Hid; rw [hw.out, World.drewN_drewN]⟩
        case measure => simp [intOf]; omega
      · have hne := str_ne hx
        have hno : Hid (¬ l = k) := ne_at hlt hlk hx
        generalize S l[i] = X at *
        generalize S k[i] = Y at *
        clear hE hx hlen h1 h2
        go_wp2_with fail
        go_quiet (fail)
        go_wp2_with fail
        go_ret
        exact ⟨by rw [decide_eq_false hno.out]; rfl, _, by rw [hw.out, World.drewN_drewN]⟩
    · have hle : i = l.length := by omega
      subst hle
      have hyes : Hid (l = k) := (whole_eq htk.out hlen)
      clear h1 h2 hlen
      go_wp2_with fail
      go_ret
      exact ⟨by rw [decide_eq_true hyes.out]; rfl, q, hw.out⟩

set_option maxHeartbeats 400000 in
theorem slicesEqual_any (l k : List (List UInt8)) (a b : Option Addr) (c d : Nat) (w : World) (hl : l.length ≤ 9223372036854775807) (hk : k.length ≤ 9223372036854775807) (h1 : Row w a l) (h2 : Row w b k) :
    Calls Try.prog 11 #[.slice a l.length c, .slice b k.length d] w fun e w' => e = .returned (.bool (decide (l = k))) ∧ ∃ q, w' = w.drewN q := by
  by_cases hlen : l.length = k.length
  · exact slicesEqual_loop l k a b c d w hl hk hlen h1 h2
  · have hno : Hid (¬ l = k) := fun q => hlen (by rw [q])
    have hb0 : ((l.length : Int) != (k.length : Int)) = true := by simp; omega
    clear hlen h1 h2
    go_enter Try.func11, Try.ntmps11
    go_wp2_with fail
    go_ret
    exact ⟨by rw [decide_eq_false hno.out]; rfl, 0, rfl⟩

set_option maxRecDepth 100000 in
set_option maxHeartbeats 4000000 in
theorem sp0 (w Wb : World) (i1 i2 f1 f2 : ByteArray) (a1 a2 : Option Addr) (m1 n1 m2 n2 : Nat)
    (hWb : (w.alloc (.cells #[.string i1, .slice a1 m1 n1, .string f1] 29)).alloc (.cells #[.string i2, .slice a2 m2 n2, .string f2] 29) = Wb)
    (c0 : Wb.cell? ⟨w.heap.size, 0, none⟩ = some (.string i1)) (e0 : Wb.cell? ⟨w.heap.size + 1, 0, none⟩ = some (.string i2)) (k : (i1.toList == i2.toList) = false) :
    Calls Try.prog 10 #[.agg #[.string i1, .slice a1 m1 n1, .string f1], .agg #[.string i2, .slice a2 m2 n2, .string f2]] w fun e w' => e = .returned (.bool false) ∧ Below Wb.heap.size Wb w' := by
  go_enter Try.func10, Try.ntmps10
  go_upto_region 1 with fail
  clear hWb
  go_wp2_with fail
  go_ret
  exact ⟨rfl, Below.refl _ _⟩

set_option maxRecDepth 100000 in
set_option maxHeartbeats 4000000 in
theorem sp1 (w Wb : World) (i1 i2 f1 f2 : ByteArray) (a1 a2 : Option Addr) (m1 n1 m2 n2 : Nat)
    (hWb : (w.alloc (.cells #[.string i1, .slice a1 m1 n1, .string f1] 29)).alloc (.cells #[.string i1, .slice a2 m2 n2, .string f2] 29) = Wb)
    (c0 : Wb.cell? ⟨w.heap.size, 0, none⟩ = some (.string i1)) (e0 : Wb.cell? ⟨w.heap.size + 1, 0, none⟩ = some (.string i1)) (c1 : Wb.cell? ⟨w.heap.size, 1, none⟩ = some (.slice a1 m1 n1)) (e1 : Wb.cell? ⟨w.heap.size + 1, 1, none⟩ = some (.slice a2 m2 n2)) (hS : Hid (Calls Try.prog 11 #[.slice a1 m1 n1, .slice a2 m2 n2] Wb fun e w' => e = .returned (.bool false) ∧ Below Wb.heap.size Wb w')) :
    Calls Try.prog 10 #[.agg #[.string i1, .slice a1 m1 n1, .string f1], .agg #[.string i1, .slice a2 m2 n2, .string f2]] w fun e w' => e = .returned (.bool false) ∧ Below Wb.heap.size Wb w' := by
  go_enter Try.func10, Try.ntmps10
  go_upto_region 1 with fail
  clear hWb
  go_wp2_with (go_at_call 11; refine hS.out.mono ?_; rintro e w' ⟨rfl, hb⟩)
  go_ret
  exact ⟨rfl, hb⟩

set_option maxRecDepth 100000 in
set_option maxHeartbeats 4000000 in
theorem sp2 (w Wb : World) (i1 i2 f1 f2 : ByteArray) (a1 a2 : Option Addr) (m1 n1 m2 n2 : Nat)
    (hWb : (w.alloc (.cells #[.string i1, .slice a1 m1 n1, .string f1] 29)).alloc (.cells #[.string i1, .slice a2 m2 n2, .string f2] 29) = Wb)
    (c0 : Wb.cell? ⟨w.heap.size, 0, none⟩ = some (.string i1)) (e0 : Wb.cell? ⟨w.heap.size + 1, 0, none⟩ = some (.string i1)) (c1 : Wb.cell? ⟨w.heap.size, 1, none⟩ = some (.slice a1 m1 n1)) (e1 : Wb.cell? ⟨w.heap.size + 1, 1, none⟩ = some (.slice a2 m2 n2)) (hS : Hid (Calls Try.prog 11 #[.slice a1 m1 n1, .slice a2 m2 n2] Wb fun e w' => e = .returned (.bool true) ∧ Below Wb.heap.size Wb w')) (k : (f1.toList == f2.toList) = false) (g2 : Hid (∀ w', Below Wb.heap.size Wb w' → w'.cell? ⟨w.heap.size, 2, none⟩ = some (.string f1) ∧ w'.cell? ⟨w.heap.size + 1, 2, none⟩ = some (.string f2))) :
    Calls Try.prog 10 #[.agg #[.string i1, .slice a1 m1 n1, .string f1], .agg #[.string i1, .slice a2 m2 n2, .string f2]] w fun e w' => e = .returned (.bool false) ∧ Below Wb.heap.size Wb w' := by
  go_enter Try.func10, Try.ntmps10
  go_upto_region 1 with fail
  clear hWb
  go_wp2_with (go_at_call 11; refine hS.out.mono ?_; rintro e w' ⟨rfl, hb⟩; obtain ⟨C2, E2⟩ := g2.out w' hb)
  go_ret
  exact ⟨rfl, hb⟩

set_option maxRecDepth 100000 in
set_option maxHeartbeats 4000000 in
theorem sp3 (w Wb : World) (i1 i2 f1 f2 : ByteArray) (a1 a2 : Option Addr) (m1 n1 m2 n2 : Nat)
    (hWb : (w.alloc (.cells #[.string i1, .slice a1 m1 n1, .string f1] 29)).alloc (.cells #[.string i1, .slice a2 m2 n2, .string f1] 29) = Wb)
    (c0 : Wb.cell? ⟨w.heap.size, 0, none⟩ = some (.string i1)) (e0 : Wb.cell? ⟨w.heap.size + 1, 0, none⟩ = some (.string i1)) (c1 : Wb.cell? ⟨w.heap.size, 1, none⟩ = some (.slice a1 m1 n1)) (e1 : Wb.cell? ⟨w.heap.size + 1, 1, none⟩ = some (.slice a2 m2 n2)) (hS : Hid (Calls Try.prog 11 #[.slice a1 m1 n1, .slice a2 m2 n2] Wb fun e w' => e = .returned (.bool true) ∧ Below Wb.heap.size Wb w')) (g2 : Hid (∀ w', Below Wb.heap.size Wb w' → w'.cell? ⟨w.heap.size, 2, none⟩ = some (.string f1) ∧ w'.cell? ⟨w.heap.size + 1, 2, none⟩ = some (.string f1))) :
    Calls Try.prog 10 #[.agg #[.string i1, .slice a1 m1 n1, .string f1], .agg #[.string i1, .slice a2 m2 n2, .string f1]] w fun e w' => e = .returned (.bool true) ∧ Below Wb.heap.size Wb w' := by
  go_enter Try.func10, Try.ntmps10
  go_upto_region 1 with fail
  clear hWb
  go_wp2_with (go_at_call 11; refine hS.out.mono ?_; rintro e w' ⟨rfl, hb⟩; obtain ⟨C2, E2⟩ := g2.out w' hb)
  go_ret
  exact ⟨rfl, hb⟩

set_option maxRecDepth 100000 in
set_option maxHeartbeats 4000000 in
theorem sn0 (w Wb : World) (d1 d2 o1 o2 : Int) (s1 s2 v1 v2 i1 i2 f1 f2 r1 r2 : ByteArray) (a1 a2 : Option Addr) (m1 n1 m2 n2 : Nat) (b1 b2 : Bool)
    (hWb : (w.alloc (.cells #[.int .i64 d1, .int .i64 o1, .string s1, .string v1, .string i1, .slice a1 m1 n1, .string f1, .string r1, .bool b1] 31)).alloc (.cells #[.int .i64 d2, .int .i64 o2, .string s2, .string v2, .string i2, .slice a2 m2 n2, .string f2, .string r2, .bool b2] 31) = Wb)
    (c0 : Wb.cell? ⟨w.heap.size, 0, none⟩ = some (.int .i64 d1)) (e0 : Wb.cell? ⟨w.heap.size + 1, 0, none⟩ = some (.int .i64 d2)) (k : (d1 == d2) = false) :
    Calls Try.prog 8 #[.agg #[.int .i64 d1, .int .i64 o1, .string s1, .string v1, .string i1, .slice a1 m1 n1, .string f1, .string r1, .bool b1], .agg #[.int .i64 d2, .int .i64 o2, .string s2, .string v2, .string i2, .slice a2 m2 n2, .string f2, .string r2, .bool b2]] w fun e w' => e = .returned (.bool false) ∧ Below Wb.heap.size Wb w' := by
  go_enter Try.func8, Try.ntmps8
  go_upto_region 1 with fail
  clear hWb
  go_wp2_with fail
  go_ret
  exact ⟨rfl, Below.refl _ _⟩

set_option maxRecDepth 100000 in
set_option maxHeartbeats 4000000 in
theorem sn1 (w Wb : World) (d1 d2 o1 o2 : Int) (s1 s2 v1 v2 i1 i2 f1 f2 r1 r2 : ByteArray) (a1 a2 : Option Addr) (m1 n1 m2 n2 : Nat) (b1 b2 : Bool)
    (hWb : (w.alloc (.cells #[.int .i64 d1, .int .i64 o1, .string s1, .string v1, .string i1, .slice a1 m1 n1, .string f1, .string r1, .bool b1] 31)).alloc (.cells #[.int .i64 d1, .int .i64 o2, .string s2, .string v2, .string i2, .slice a2 m2 n2, .string f2, .string r2, .bool b2] 31) = Wb)
    (c0 : Wb.cell? ⟨w.heap.size, 0, none⟩ = some (.int .i64 d1)) (e0 : Wb.cell? ⟨w.heap.size + 1, 0, none⟩ = some (.int .i64 d1)) (c1 : Wb.cell? ⟨w.heap.size, 1, none⟩ = some (.int .i64 o1)) (e1 : Wb.cell? ⟨w.heap.size + 1, 1, none⟩ = some (.int .i64 o2)) (k : (o1 == o2) = false) :
    Calls Try.prog 8 #[.agg #[.int .i64 d1, .int .i64 o1, .string s1, .string v1, .string i1, .slice a1 m1 n1, .string f1, .string r1, .bool b1], .agg #[.int .i64 d1, .int .i64 o2, .string s2, .string v2, .string i2, .slice a2 m2 n2, .string f2, .string r2, .bool b2]] w fun e w' => e = .returned (.bool false) ∧ Below Wb.heap.size Wb w' := by
  go_enter Try.func8, Try.ntmps8
  go_upto_region 1 with fail
  clear hWb
  go_wp2_with fail
  go_ret
  exact ⟨rfl, Below.refl _ _⟩

set_option maxRecDepth 100000 in
set_option maxHeartbeats 4000000 in
theorem sn2 (w Wb : World) (d1 d2 o1 o2 : Int) (s1 s2 v1 v2 i1 i2 f1 f2 r1 r2 : ByteArray) (a1 a2 : Option Addr) (m1 n1 m2 n2 : Nat) (b1 b2 : Bool)
    (hWb : (w.alloc (.cells #[.int .i64 d1, .int .i64 o1, .string s1, .string v1, .string i1, .slice a1 m1 n1, .string f1, .string r1, .bool b1] 31)).alloc (.cells #[.int .i64 d1, .int .i64 o1, .string s2, .string v2, .string i2, .slice a2 m2 n2, .string f2, .string r2, .bool b2] 31) = Wb)
    (c0 : Wb.cell? ⟨w.heap.size, 0, none⟩ = some (.int .i64 d1)) (e0 : Wb.cell? ⟨w.heap.size + 1, 0, none⟩ = some (.int .i64 d1)) (c1 : Wb.cell? ⟨w.heap.size, 1, none⟩ = some (.int .i64 o1)) (e1 : Wb.cell? ⟨w.heap.size + 1, 1, none⟩ = some (.int .i64 o1)) (c2 : Wb.cell? ⟨w.heap.size, 2, none⟩ = some (.string s1)) (e2 : Wb.cell? ⟨w.heap.size + 1, 2, none⟩ = some (.string s2)) (k : (s1.toList == s2.toList) = false) :
    Calls Try.prog 8 #[.agg #[.int .i64 d1, .int .i64 o1, .string s1, .string v1, .string i1, .slice a1 m1 n1, .string f1, .string r1, .bool b1], .agg #[.int .i64 d1, .int .i64 o1, .string s2, .string v2, .string i2, .slice a2 m2 n2, .string f2, .string r2, .bool b2]] w fun e w' => e = .returned (.bool false) ∧ Below Wb.heap.size Wb w' := by
  go_enter Try.func8, Try.ntmps8
  go_upto_region 1 with fail
  clear hWb
  go_wp2_with fail
  go_ret
  exact ⟨rfl, Below.refl _ _⟩

set_option maxRecDepth 100000 in
set_option maxHeartbeats 4000000 in
theorem sn3 (w Wb : World) (d1 d2 o1 o2 : Int) (s1 s2 v1 v2 i1 i2 f1 f2 r1 r2 : ByteArray) (a1 a2 : Option Addr) (m1 n1 m2 n2 : Nat) (b1 b2 : Bool)
    (hWb : (w.alloc (.cells #[.int .i64 d1, .int .i64 o1, .string s1, .string v1, .string i1, .slice a1 m1 n1, .string f1, .string r1, .bool b1] 31)).alloc (.cells #[.int .i64 d1, .int .i64 o1, .string s1, .string v2, .string i2, .slice a2 m2 n2, .string f2, .string r2, .bool b2] 31) = Wb)
    (c0 : Wb.cell? ⟨w.heap.size, 0, none⟩ = some (.int .i64 d1)) (e0 : Wb.cell? ⟨w.heap.size + 1, 0, none⟩ = some (.int .i64 d1)) (c1 : Wb.cell? ⟨w.heap.size, 1, none⟩ = some (.int .i64 o1)) (e1 : Wb.cell? ⟨w.heap.size + 1, 1, none⟩ = some (.int .i64 o1)) (c2 : Wb.cell? ⟨w.heap.size, 2, none⟩ = some (.string s1)) (e2 : Wb.cell? ⟨w.heap.size + 1, 2, none⟩ = some (.string s1)) (c3 : Wb.cell? ⟨w.heap.size, 3, none⟩ = some (.string v1)) (e3 : Wb.cell? ⟨w.heap.size + 1, 3, none⟩ = some (.string v2)) (k : (v1.toList == v2.toList) = false) :
    Calls Try.prog 8 #[.agg #[.int .i64 d1, .int .i64 o1, .string s1, .string v1, .string i1, .slice a1 m1 n1, .string f1, .string r1, .bool b1], .agg #[.int .i64 d1, .int .i64 o1, .string s1, .string v2, .string i2, .slice a2 m2 n2, .string f2, .string r2, .bool b2]] w fun e w' => e = .returned (.bool false) ∧ Below Wb.heap.size Wb w' := by
  go_enter Try.func8, Try.ntmps8
  go_upto_region 1 with fail
  clear hWb
  go_wp2_with fail
  go_ret
  exact ⟨rfl, Below.refl _ _⟩

set_option maxRecDepth 100000 in
set_option maxHeartbeats 4000000 in
theorem sn4 (w Wb : World) (d1 d2 o1 o2 : Int) (s1 s2 v1 v2 i1 i2 f1 f2 r1 r2 : ByteArray) (a1 a2 : Option Addr) (m1 n1 m2 n2 : Nat) (b1 b2 : Bool)
    (hWb : (w.alloc (.cells #[.int .i64 d1, .int .i64 o1, .string s1, .string v1, .string i1, .slice a1 m1 n1, .string f1, .string r1, .bool b1] 31)).alloc (.cells #[.int .i64 d1, .int .i64 o1, .string s1, .string v1, .string i2, .slice a2 m2 n2, .string f2, .string r2, .bool b2] 31) = Wb)
    (c0 : Wb.cell? ⟨w.heap.size, 0, none⟩ = some (.int .i64 d1)) (e0 : Wb.cell? ⟨w.heap.size + 1, 0, none⟩ = some (.int .i64 d1)) (c1 : Wb.cell? ⟨w.heap.size, 1, none⟩ = some (.int .i64 o1)) (e1 : Wb.cell? ⟨w.heap.size + 1, 1, none⟩ = some (.int .i64 o1)) (c2 : Wb.cell? ⟨w.heap.size, 2, none⟩ = some (.string s1)) (e2 : Wb.cell? ⟨w.heap.size + 1, 2, none⟩ = some (.string s1)) (c3 : Wb.cell? ⟨w.heap.size, 3, none⟩ = some (.string v1)) (e3 : Wb.cell? ⟨w.heap.size + 1, 3, none⟩ = some (.string v1)) (c4 : Wb.cell? ⟨w.heap.size, 4, none⟩ = some (.string i1)) (e4 : Wb.cell? ⟨w.heap.size + 1, 4, none⟩ = some (.string i2)) (c5 : Wb.cell? ⟨w.heap.size, 5, none⟩ = some (.slice a1 m1 n1)) (e5 : Wb.cell? ⟨w.heap.size + 1, 5, none⟩ = some (.slice a2 m2 n2)) (c6 : Wb.cell? ⟨w.heap.size, 6, none⟩ = some (.string f1)) (e6 : Wb.cell? ⟨w.heap.size + 1, 6, none⟩ = some (.string f2)) (hS : Hid (Calls Try.prog 10 #[.agg #[.string i1, .slice a1 m1 n1, .string f1], .agg #[.string i2, .slice a2 m2 n2, .string f2]] Wb fun e w' => e = .returned (.bool false) ∧ Below Wb.heap.size Wb w')) :
    Calls Try.prog 8 #[.agg #[.int .i64 d1, .int .i64 o1, .string s1, .string v1, .string i1, .slice a1 m1 n1, .string f1, .string r1, .bool b1], .agg #[.int .i64 d1, .int .i64 o1, .string s1, .string v1, .string i2, .slice a2 m2 n2, .string f2, .string r2, .bool b2]] w fun e w' => e = .returned (.bool false) ∧ Below Wb.heap.size Wb w' := by
  go_enter Try.func8, Try.ntmps8
  go_upto_region 1 with fail
  clear hWb
  go_wp2_with (go_at_call 10; refine hS.out.mono ?_; rintro e w' ⟨rfl, hb⟩)
  go_ret
  exact ⟨rfl, hb⟩

set_option maxRecDepth 100000 in
set_option maxHeartbeats 4000000 in
theorem sn5 (w Wb : World) (d1 d2 o1 o2 : Int) (s1 s2 v1 v2 i1 i2 f1 f2 r1 r2 : ByteArray) (a1 a2 : Option Addr) (m1 n1 m2 n2 : Nat) (b1 b2 : Bool)
    (hWb : (w.alloc (.cells #[.int .i64 d1, .int .i64 o1, .string s1, .string v1, .string i1, .slice a1 m1 n1, .string f1, .string r1, .bool b1] 31)).alloc (.cells #[.int .i64 d1, .int .i64 o1, .string s1, .string v1, .string i2, .slice a2 m2 n2, .string f2, .string r2, .bool b2] 31) = Wb)
    (c0 : Wb.cell? ⟨w.heap.size, 0, none⟩ = some (.int .i64 d1)) (e0 : Wb.cell? ⟨w.heap.size + 1, 0, none⟩ = some (.int .i64 d1)) (c1 : Wb.cell? ⟨w.heap.size, 1, none⟩ = some (.int .i64 o1)) (e1 : Wb.cell? ⟨w.heap.size + 1, 1, none⟩ = some (.int .i64 o1)) (c2 : Wb.cell? ⟨w.heap.size, 2, none⟩ = some (.string s1)) (e2 : Wb.cell? ⟨w.heap.size + 1, 2, none⟩ = some (.string s1)) (c3 : Wb.cell? ⟨w.heap.size, 3, none⟩ = some (.string v1)) (e3 : Wb.cell? ⟨w.heap.size + 1, 3, none⟩ = some (.string v1)) (c4 : Wb.cell? ⟨w.heap.size, 4, none⟩ = some (.string i1)) (e4 : Wb.cell? ⟨w.heap.size + 1, 4, none⟩ = some (.string i2)) (c5 : Wb.cell? ⟨w.heap.size, 5, none⟩ = some (.slice a1 m1 n1)) (e5 : Wb.cell? ⟨w.heap.size + 1, 5, none⟩ = some (.slice a2 m2 n2)) (c6 : Wb.cell? ⟨w.heap.size, 6, none⟩ = some (.string f1)) (e6 : Wb.cell? ⟨w.heap.size + 1, 6, none⟩ = some (.string f2)) (hS : Hid (Calls Try.prog 10 #[.agg #[.string i1, .slice a1 m1 n1, .string f1], .agg #[.string i2, .slice a2 m2 n2, .string f2]] Wb fun e w' => e = .returned (.bool true) ∧ Below Wb.heap.size Wb w')) (k : (r1.toList == r2.toList) = false) (g7 : Hid (∀ w', Below Wb.heap.size Wb w' → w'.cell? ⟨w.heap.size, 7, none⟩ = some (.string r1) ∧ w'.cell? ⟨w.heap.size + 1, 7, none⟩ = some (.string r2))) :
    Calls Try.prog 8 #[.agg #[.int .i64 d1, .int .i64 o1, .string s1, .string v1, .string i1, .slice a1 m1 n1, .string f1, .string r1, .bool b1], .agg #[.int .i64 d1, .int .i64 o1, .string s1, .string v1, .string i2, .slice a2 m2 n2, .string f2, .string r2, .bool b2]] w fun e w' => e = .returned (.bool false) ∧ Below Wb.heap.size Wb w' := by
  go_enter Try.func8, Try.ntmps8
  go_upto_region 1 with fail
  clear hWb
  go_wp2_with (go_at_call 10; refine hS.out.mono ?_; rintro e w' ⟨rfl, hb⟩; obtain ⟨C7, E7⟩ := g7.out w' hb)
  go_ret
  exact ⟨rfl, hb⟩

set_option maxRecDepth 100000 in
set_option maxHeartbeats 4000000 in
theorem sn6 (w Wb : World) (d1 d2 o1 o2 : Int) (s1 s2 v1 v2 i1 i2 f1 f2 r1 r2 : ByteArray) (a1 a2 : Option Addr) (m1 n1 m2 n2 : Nat) (b1 b2 : Bool)
    (hWb : (w.alloc (.cells #[.int .i64 d1, .int .i64 o1, .string s1, .string v1, .string i1, .slice a1 m1 n1, .string f1, .string r1, .bool b1] 31)).alloc (.cells #[.int .i64 d1, .int .i64 o1, .string s1, .string v1, .string i2, .slice a2 m2 n2, .string f2, .string r1, .bool b2] 31) = Wb)
    (c0 : Wb.cell? ⟨w.heap.size, 0, none⟩ = some (.int .i64 d1)) (e0 : Wb.cell? ⟨w.heap.size + 1, 0, none⟩ = some (.int .i64 d1)) (c1 : Wb.cell? ⟨w.heap.size, 1, none⟩ = some (.int .i64 o1)) (e1 : Wb.cell? ⟨w.heap.size + 1, 1, none⟩ = some (.int .i64 o1)) (c2 : Wb.cell? ⟨w.heap.size, 2, none⟩ = some (.string s1)) (e2 : Wb.cell? ⟨w.heap.size + 1, 2, none⟩ = some (.string s1)) (c3 : Wb.cell? ⟨w.heap.size, 3, none⟩ = some (.string v1)) (e3 : Wb.cell? ⟨w.heap.size + 1, 3, none⟩ = some (.string v1)) (c4 : Wb.cell? ⟨w.heap.size, 4, none⟩ = some (.string i1)) (e4 : Wb.cell? ⟨w.heap.size + 1, 4, none⟩ = some (.string i2)) (c5 : Wb.cell? ⟨w.heap.size, 5, none⟩ = some (.slice a1 m1 n1)) (e5 : Wb.cell? ⟨w.heap.size + 1, 5, none⟩ = some (.slice a2 m2 n2)) (c6 : Wb.cell? ⟨w.heap.size, 6, none⟩ = some (.string f1)) (e6 : Wb.cell? ⟨w.heap.size + 1, 6, none⟩ = some (.string f2)) (hS : Hid (Calls Try.prog 10 #[.agg #[.string i1, .slice a1 m1 n1, .string f1], .agg #[.string i2, .slice a2 m2 n2, .string f2]] Wb fun e w' => e = .returned (.bool true) ∧ Below Wb.heap.size Wb w')) (k : (b1 == b2) = false) (g7 : Hid (∀ w', Below Wb.heap.size Wb w' → w'.cell? ⟨w.heap.size, 7, none⟩ = some (.string r1) ∧ w'.cell? ⟨w.heap.size + 1, 7, none⟩ = some (.string r1))) (g8 : Hid (∀ w', Below Wb.heap.size Wb w' → w'.cell? ⟨w.heap.size, 8, none⟩ = some (.bool b1) ∧ w'.cell? ⟨w.heap.size + 1, 8, none⟩ = some (.bool b2))) :
    Calls Try.prog 8 #[.agg #[.int .i64 d1, .int .i64 o1, .string s1, .string v1, .string i1, .slice a1 m1 n1, .string f1, .string r1, .bool b1], .agg #[.int .i64 d1, .int .i64 o1, .string s1, .string v1, .string i2, .slice a2 m2 n2, .string f2, .string r1, .bool b2]] w fun e w' => e = .returned (.bool false) ∧ Below Wb.heap.size Wb w' := by
  go_enter Try.func8, Try.ntmps8
  go_upto_region 1 with fail
  clear hWb
  go_wp2_with (go_at_call 10; refine hS.out.mono ?_; rintro e w' ⟨rfl, hb⟩; obtain ⟨C7, E7⟩ := g7.out w' hb; obtain ⟨C8, E8⟩ := g8.out w' hb)
  go_ret
  exact ⟨rfl, hb⟩

set_option maxRecDepth 100000 in
set_option maxHeartbeats 4000000 in
theorem sn7 (w Wb : World) (d1 d2 o1 o2 : Int) (s1 s2 v1 v2 i1 i2 f1 f2 r1 r2 : ByteArray) (a1 a2 : Option Addr) (m1 n1 m2 n2 : Nat) (b1 b2 : Bool)
    (hWb : (w.alloc (.cells #[.int .i64 d1, .int .i64 o1, .string s1, .string v1, .string i1, .slice a1 m1 n1, .string f1, .string r1, .bool b1] 31)).alloc (.cells #[.int .i64 d1, .int .i64 o1, .string s1, .string v1, .string i2, .slice a2 m2 n2, .string f2, .string r1, .bool b1] 31) = Wb)
    (c0 : Wb.cell? ⟨w.heap.size, 0, none⟩ = some (.int .i64 d1)) (e0 : Wb.cell? ⟨w.heap.size + 1, 0, none⟩ = some (.int .i64 d1)) (c1 : Wb.cell? ⟨w.heap.size, 1, none⟩ = some (.int .i64 o1)) (e1 : Wb.cell? ⟨w.heap.size + 1, 1, none⟩ = some (.int .i64 o1)) (c2 : Wb.cell? ⟨w.heap.size, 2, none⟩ = some (.string s1)) (e2 : Wb.cell? ⟨w.heap.size + 1, 2, none⟩ = some (.string s1)) (c3 : Wb.cell? ⟨w.heap.size, 3, none⟩ = some (.string v1)) (e3 : Wb.cell? ⟨w.heap.size + 1, 3, none⟩ = some (.string v1)) (c4 : Wb.cell? ⟨w.heap.size, 4, none⟩ = some (.string i1)) (e4 : Wb.cell? ⟨w.heap.size + 1, 4, none⟩ = some (.string i2)) (c5 : Wb.cell? ⟨w.heap.size, 5, none⟩ = some (.slice a1 m1 n1)) (e5 : Wb.cell? ⟨w.heap.size + 1, 5, none⟩ = some (.slice a2 m2 n2)) (c6 : Wb.cell? ⟨w.heap.size, 6, none⟩ = some (.string f1)) (e6 : Wb.cell? ⟨w.heap.size + 1, 6, none⟩ = some (.string f2)) (hS : Hid (Calls Try.prog 10 #[.agg #[.string i1, .slice a1 m1 n1, .string f1], .agg #[.string i2, .slice a2 m2 n2, .string f2]] Wb fun e w' => e = .returned (.bool true) ∧ Below Wb.heap.size Wb w')) (g7 : Hid (∀ w', Below Wb.heap.size Wb w' → w'.cell? ⟨w.heap.size, 7, none⟩ = some (.string r1) ∧ w'.cell? ⟨w.heap.size + 1, 7, none⟩ = some (.string r1))) (g8 : Hid (∀ w', Below Wb.heap.size Wb w' → w'.cell? ⟨w.heap.size, 8, none⟩ = some (.bool b1) ∧ w'.cell? ⟨w.heap.size + 1, 8, none⟩ = some (.bool b1))) :
    Calls Try.prog 8 #[.agg #[.int .i64 d1, .int .i64 o1, .string s1, .string v1, .string i1, .slice a1 m1 n1, .string f1, .string r1, .bool b1], .agg #[.int .i64 d1, .int .i64 o1, .string s1, .string v1, .string i2, .slice a2 m2 n2, .string f2, .string r1, .bool b1]] w fun e w' => e = .returned (.bool true) ∧ Below Wb.heap.size Wb w' := by
  go_enter Try.func8, Try.ntmps8
  go_upto_region 1 with fail
  clear hWb
  go_wp2_with (go_at_call 10; refine hS.out.mono ?_; rintro e w' ⟨rfl, hb⟩; obtain ⟨C7, E7⟩ := g7.out w' hb; obtain ⟨C8, E8⟩ := g8.out w' hb)
  go_ret
  exact ⟨rfl, hb⟩

theorem samePattern_any (i1 f1 i2 f2 : List UInt8) (l1 l2 : List (List UInt8)) (a1 a2 : Option Addr) (n1 n2 : Nat) (w : World) (hl1 : l1.length ≤ 8796093021952) (hl2 : l2.length ≤ 8796093021952) (r1 : Row w a1 l1) (r2 : Row w a2 l2) :
    Calls Try.prog 10 #[.agg #[.string (S i1), .slice a1 l1.length n1, .string (S f1)], .agg #[.string (S i2), .slice a2 l2.length n2, .string (S f2)]] w fun e w' => e = .returned (.bool (decide (i1 = i2 ∧ l1 = l2 ∧ f1 = f2))) ∧ Below w.heap.size w w' := by
  obtain ⟨Wa, hWa⟩ : ∃ W, w.alloc (.cells #[.string (S i1), .slice a1 l1.length n1, .string (S f1)] 29) = W := ⟨_, rfl⟩
  obtain ⟨Wb, hWb⟩ : ∃ W, Wa.alloc (.cells #[.string (S i2), .slice a2 l2.length n2, .string (S f2)] 29) = W := ⟨_, rfl⟩
  have na : Wa.heap.size = w.heap.size + 1 := by rw [← hWa]; simp
  have pa : Box Wa w.heap.size 29 #[.string (S i1), .slice a1 l1.length n1, .string (S f1)] := by rw [← hWa]; exact Box.new _ _ _
  have p : Box Wb w.heap.size 29 #[.string (S i1), .slice a1 l1.length n1, .string (S f1)] := by rw [← hWb]; exact pa.past _
  have q : Box Wb (w.heap.size + 1) 29 #[.string (S i2), .slice a2 l2.length n2, .string (S f2)] := by rw [← hWb, ← na]; exact Box.new _ _ _
  have hB : Below w.heap.size w Wb := by
    rw [← hWb, ← hWa]
    exact ((Below.refl _ _).alloc (Nat.le_refl _) _).alloc (by simp) _
  rw [← hWa] at hWb
  have hS : Calls Try.prog 11 #[.slice a1 l1.length n1, .slice a2 l2.length n2] Wb fun e w' => e = .returned (.bool (decide (l1 = l2))) ∧ Below Wb.heap.size Wb w' := (slicesEqual_any l1 l2 a1 a2 n1 n2 Wb (by omega) (by omega) (r1.below hB) (r2.below hB)).mono (by rintro e w' ⟨h1, q, rfl⟩; exact ⟨h1, drewN_below _ _ _⟩)
  have c0 := (p.cell 0 (by simp)).1
  have c1 := (p.cell 1 (by simp)).1
  have c2 := (p.cell 2 (by simp)).1
  have e0 := (q.cell 0 (by simp)).1
  have e1 := (q.cell 1 (by simp)).1
  have e2 := (q.cell 2 (by simp)).1
  have g2 : ∀ w', Below Wb.heap.size Wb w' → w'.cell? ⟨w.heap.size, 2, none⟩ = some (.string (S f1)) ∧ w'.cell? ⟨w.heap.size + 1, 2, none⟩ = some (.string (S f2)) := fun w' hb => ⟨((p.below hb).cell 2 (by simp)).1, ((q.below hb).cell 2 (by simp)).1⟩
  have fin : ∀ t, Calls Try.prog 10 #[.agg #[.string (S i1), .slice a1 l1.length n1, .string (S f1)], .agg #[.string (S i2), .slice a2 l2.length n2, .string (S f2)]] w (fun e w' => e = .returned (.bool t) ∧ Below Wb.heap.size Wb w') → decide (i1 = i2 ∧ l1 = l2 ∧ f1 = f2) = t → Calls Try.prog 10 #[.agg #[.string (S i1), .slice a1 l1.length n1, .string (S f1)], .agg #[.string (S i2), .slice a2 l2.length n2, .string (S f2)]] w fun e w' => e = .returned (.bool (decide (i1 = i2 ∧ l1 = l2 ∧ f1 = f2))) ∧ Below w.heap.size w w' := fun t h e => by
    rw [e]
    exact h.mono (fun e w' ⟨h1, h2⟩ => ⟨h1, hB.trans (h2.mono hB.size)⟩)
  by_cases h0 : i1 = i2
  · by_cases h1 : l1 = l2
    · rw [decide_eq_true h1] at hS
      by_cases h2 : f1 = f2
      · refine fin true ?_ (decide_eq_true ⟨h0, h1, h2⟩)
        subst h0 h2
        exact sp3 w Wb _ (S i1) _ (S f1) _ _ _ _ _ _ hWb c0 e0 c1 e1 hS g2
      · refine fin false ?_ (decide_eq_false (fun h => h2 h.2.2))
        subst h0
        exact sp2 w Wb _ (S i1) _ _ _ _ _ _ _ _ hWb c0 e0 c1 e1 hS (str_ne h2) g2
    · rw [decide_eq_false h1] at hS
      refine fin false ?_ (decide_eq_false (fun h => h1 h.2.1))
      subst h0
      exact sp1 w Wb _ (S i1) _ _ _ _ _ _ _ _ hWb c0 e0 c1 e1 hS
  · refine fin false ?_ (decide_eq_false (fun h => h0 h.1))
    exact sp0 w Wb _ _ _ _ _ _ _ _ _ _ hWb c0 e0 (str_ne h0)

theorem sameNode_any (x y : Nod) (w : World) (hx : x.l.length ≤ 8796093021952) (hy : y.l.length ≤ 8796093021952) (rx : Row w x.a x.l) (ry : Row w y.a y.l) :
    Calls Try.prog 8 #[.agg (nA x), .agg (nA y)] w fun e w' => e = .returned (.bool (nb x y)) ∧ Below w.heap.size w w' := by
  obtain ⟨d1, o1, s1, v1, i1, a1, n1, l1, f1, r1, b1⟩ := x
  obtain ⟨d2, o2, s2, v2, i2, a2, n2, l2, f2, r2, b2⟩ := y
  dsimp only at hx hy rx ry
  obtain ⟨Wa, hWa⟩ : ∃ W, w.alloc (.cells #[.int .i64 d1, .int .i64 o1, .string (S s1), .string (S v1), .string (S i1), .slice a1 l1.length n1, .string (S f1), .string (S r1), .bool b1] 31) = W := ⟨_, rfl⟩
  obtain ⟨Wb, hWb⟩ : ∃ W, Wa.alloc (.cells #[.int .i64 d2, .int .i64 o2, .string (S s2), .string (S v2), .string (S i2), .slice a2 l2.length n2, .string (S f2), .string (S r2), .bool b2] 31) = W := ⟨_, rfl⟩
  have na : Wa.heap.size = w.heap.size + 1 := by rw [← hWa]; simp
  have pa : Box Wa w.heap.size 31 #[.int .i64 d1, .int .i64 o1, .string (S s1), .string (S v1), .string (S i1), .slice a1 l1.length n1, .string (S f1), .string (S r1), .bool b1] := by rw [← hWa]; exact Box.new _ _ _
  have p : Box Wb w.heap.size 31 #[.int .i64 d1, .int .i64 o1, .string (S s1), .string (S v1), .string (S i1), .slice a1 l1.length n1, .string (S f1), .string (S r1), .bool b1] := by rw [← hWb]; exact pa.past _
  have q : Box Wb (w.heap.size + 1) 31 #[.int .i64 d2, .int .i64 o2, .string (S s2), .string (S v2), .string (S i2), .slice a2 l2.length n2, .string (S f2), .string (S r2), .bool b2] := by rw [← hWb, ← na]; exact Box.new _ _ _
  have hB : Below w.heap.size w Wb := by
    rw [← hWb, ← hWa]
    exact ((Below.refl _ _).alloc (Nat.le_refl _) _).alloc (by simp) _
  rw [← hWa] at hWb
  have hS : Calls Try.prog 10 #[.agg #[.string (S i1), .slice a1 l1.length n1, .string (S f1)], .agg #[.string (S i2), .slice a2 l2.length n2, .string (S f2)]] Wb fun e w' => e = .returned (.bool (decide (i1 = i2 ∧ l1 = l2 ∧ f1 = f2))) ∧ Below Wb.heap.size Wb w' := samePattern_any i1 f1 i2 f2 l1 l2 a1 a2 n1 n2 Wb hx hy (rx.below hB) (ry.below hB)
  have c0 := (p.cell 0 (by simp)).1
  have c1 := (p.cell 1 (by simp)).1
  have c2 := (p.cell 2 (by simp)).1
  have c3 := (p.cell 3 (by simp)).1
  have c4 := (p.cell 4 (by simp)).1
  have c5 := (p.cell 5 (by simp)).1
  have c6 := (p.cell 6 (by simp)).1
  have c7 := (p.cell 7 (by simp)).1
  have c8 := (p.cell 8 (by simp)).1
  have e0 := (q.cell 0 (by simp)).1
  have e1 := (q.cell 1 (by simp)).1
  have e2 := (q.cell 2 (by simp)).1
  have e3 := (q.cell 3 (by simp)).1
  have e4 := (q.cell 4 (by simp)).1
  have e5 := (q.cell 5 (by simp)).1
  have e6 := (q.cell 6 (by simp)).1
  have e7 := (q.cell 7 (by simp)).1
  have e8 := (q.cell 8 (by simp)).1
  have g7 : ∀ w', Below Wb.heap.size Wb w' → w'.cell? ⟨w.heap.size, 7, none⟩ = some (.string (S r1)) ∧ w'.cell? ⟨w.heap.size + 1, 7, none⟩ = some (.string (S r2)) := fun w' hb => ⟨((p.below hb).cell 7 (by simp)).1, ((q.below hb).cell 7 (by simp)).1⟩
  have g8 : ∀ w', Below Wb.heap.size Wb w' → w'.cell? ⟨w.heap.size, 8, none⟩ = some (.bool b1) ∧ w'.cell? ⟨w.heap.size + 1, 8, none⟩ = some (.bool b2) := fun w' hb => ⟨((p.below hb).cell 8 (by simp)).1, ((q.below hb).cell 8 (by simp)).1⟩
  have fin : ∀ t, Calls Try.prog 8 #[.agg #[.int .i64 d1, .int .i64 o1, .string (S s1), .string (S v1), .string (S i1), .slice a1 l1.length n1, .string (S f1), .string (S r1), .bool b1], .agg #[.int .i64 d2, .int .i64 o2, .string (S s2), .string (S v2), .string (S i2), .slice a2 l2.length n2, .string (S f2), .string (S r2), .bool b2]] w (fun e w' => e = .returned (.bool t) ∧ Below Wb.heap.size Wb w') → nb (⟨d1, o1, s1, v1, i1, a1, n1, l1, f1, r1, b1⟩ : Nod) (⟨d2, o2, s2, v2, i2, a2, n2, l2, f2, r2, b2⟩ : Nod) = t → Calls Try.prog 8 #[.agg #[.int .i64 d1, .int .i64 o1, .string (S s1), .string (S v1), .string (S i1), .slice a1 l1.length n1, .string (S f1), .string (S r1), .bool b1], .agg #[.int .i64 d2, .int .i64 o2, .string (S s2), .string (S v2), .string (S i2), .slice a2 l2.length n2, .string (S f2), .string (S r2), .bool b2]] w fun e w' => e = .returned (.bool (nb (⟨d1, o1, s1, v1, i1, a1, n1, l1, f1, r1, b1⟩ : Nod) (⟨d2, o2, s2, v2, i2, a2, n2, l2, f2, r2, b2⟩ : Nod))) ∧ Below w.heap.size w w' := fun t h e => by
    rw [e]
    exact h.mono (fun e w' ⟨h1, h2⟩ => ⟨h1, hB.trans (h2.mono hB.size)⟩)
  show Calls Try.prog 8 #[.agg #[.int .i64 d1, .int .i64 o1, .string (S s1), .string (S v1), .string (S i1), .slice a1 l1.length n1, .string (S f1), .string (S r1), .bool b1], .agg #[.int .i64 d2, .int .i64 o2, .string (S s2), .string (S v2), .string (S i2), .slice a2 l2.length n2, .string (S f2), .string (S r2), .bool b2]] w fun e w' => e = .returned (.bool (nb (⟨d1, o1, s1, v1, i1, a1, n1, l1, f1, r1, b1⟩ : Nod) (⟨d2, o2, s2, v2, i2, a2, n2, l2, f2, r2, b2⟩ : Nod))) ∧ Below w.heap.size w w'
  by_cases h0 : d1 = d2
  · by_cases h1 : o1 = o2
    · by_cases h2 : s1 = s2
      · by_cases h3 : v1 = v2
        · by_cases h4 : (i1 = i2 ∧ l1 = l2 ∧ f1 = f2)
          · rw [decide_eq_true h4] at hS
            by_cases h5 : r1 = r2
            · by_cases h6 : b1 = b2
              · refine fin true ?_ ((nb_iff _ _).2 (by obtain ⟨z1, z2, z3⟩ := h4; simp only [np, Prod.mk.injEq]; exact ⟨h0, h1, h2, h3, z1, z2, z3, h5, h6⟩))
                subst h0 h1 h2 h3 h5 h6
                exact sn7 w Wb (d1) (d1) (o1) (o1) (S s1) (S s1) (S v1) (S v1) (S i1) (S i2) (S f1) (S f2) (S r1) (S r1) a1 a2 l1.length n1 l2.length n2 b1 b1 hWb c0 e0 c1 e1 c2 e2 c3 e3 c4 e4 c5 e5 c6 e6 hS g7 g8
              · refine fin false ?_ (nb_no (fun h => h6 (by simp only [np, Prod.mk.injEq] at h; exact h.2.2.2.2.2.2.2.2)))
                subst h0 h1 h2 h3 h5
                exact sn6 w Wb (d1) (d1) (o1) (o1) (S s1) (S s1) (S v1) (S v1) (S i1) (S i2) (S f1) (S f2) (S r1) (S r1) a1 a2 l1.length n1 l2.length n2 b1 b2 hWb c0 e0 c1 e1 c2 e2 c3 e3 c4 e4 c5 e5 c6 e6 hS (by simpa using h6) g7 g8
            · refine fin false ?_ (nb_no (fun h => h5 (by simp only [np, Prod.mk.injEq] at h; exact h.2.2.2.2.2.2.2.1)))
              subst h0 h1 h2 h3
              exact sn5 w Wb (d1) (d1) (o1) (o1) (S s1) (S s1) (S v1) (S v1) (S i1) (S i2) (S f1) (S f2) (S r1) (S r2) a1 a2 l1.length n1 l2.length n2 b1 b2 hWb c0 e0 c1 e1 c2 e2 c3 e3 c4 e4 c5 e5 c6 e6 hS (str_ne h5) g7
          · rw [decide_eq_false h4] at hS
            refine fin false ?_ (nb_no (fun h => h4 (by simp only [np, Prod.mk.injEq] at h; exact ⟨h.2.2.2.2.1, h.2.2.2.2.2.1, h.2.2.2.2.2.2.1⟩)))
            subst h0 h1 h2 h3
            exact sn4 w Wb (d1) (d1) (o1) (o1) (S s1) (S s1) (S v1) (S v1) (S i1) (S i2) (S f1) (S f2) (S r1) (S r2) a1 a2 l1.length n1 l2.length n2 b1 b2 hWb c0 e0 c1 e1 c2 e2 c3 e3 c4 e4 c5 e5 c6 e6 hS 
        · refine fin false ?_ (nb_no (fun h => h3 (by simp only [np, Prod.mk.injEq] at h; exact h.2.2.2.1)))
          subst h0 h1 h2
          exact sn3 w Wb (d1) (d1) (o1) (o1) (S s1) (S s1) (S v1) (S v2) (S i1) (S i2) (S f1) (S f2) (S r1) (S r2) a1 a2 l1.length n1 l2.length n2 b1 b2 hWb c0 e0 c1 e1 c2 e2 c3 e3 (str_ne h3)
      · refine fin false ?_ (nb_no (fun h => h2 (by simp only [np, Prod.mk.injEq] at h; exact h.2.2.1)))
        subst h0 h1
        exact sn2 w Wb (d1) (d1) (o1) (o1) (S s1) (S s2) (S v1) (S v2) (S i1) (S i2) (S f1) (S f2) (S r1) (S r2) a1 a2 l1.length n1 l2.length n2 b1 b2 hWb c0 e0 c1 e1 c2 e2 (str_ne h2)
    · refine fin false ?_ (nb_no (fun h => h1 (by simp only [np, Prod.mk.injEq] at h; exact h.2.1)))
      subst h0
      exact sn1 w Wb (d1) (d1) (o1) (o2) (S s1) (S s2) (S v1) (S v2) (S i1) (S i2) (S f1) (S f2) (S r1) (S r2) a1 a2 l1.length n1 l2.length n2 b1 b2 hWb c0 e0 c1 e1 (by simpa using h1)
  · refine fin false ?_ (nb_no (fun h => h0 (by simp only [np, Prod.mk.injEq] at h; exact h.1)))
    exact sn0 w Wb (d1) (d2) (o1) (o2) (S s1) (S s2) (S v1) (S v2) (S i1) (S i2) (S f1) (S f2) (S r1) (S r2) a1 a2 l1.length n1 l2.length n2 b1 b2 hWb c0 e0 (by simpa using h0)

end Go.Proofs.Ytpddmknlkhhjmaa
