import Derived.Test.YtddkefjcpgdomaaFrBytes
namespace Go.Proofs.Ytddkefjcpgdomaa
open Go.RowKit

set_option maxHeartbeats 400000 in
theorem wrap_neg_0 (form : Int) (s : ByteArray) (w : World) (d1 : decide (form < 0) = true) (hn : s.size ≤ 127) :
    Calls Try.prog 13 #[.int .i64 form, .string s] w fun r w' => r = .returned (.string (S (hd 0 s.size) ++ s)) ∧ Below w.heap.size w w' := by
  have e1 : decide ((127 : Int) < (s.size : Int)) = false := decide_eq_false (by omega)
  have hb : IntKind.u8.wrap (s.size : Int) = ((UInt8.ofNat s.size).toNat : Int) := by rw [u8_of _ (by omega)]; show (s.size : Int) % 256 = _; omega
  have hh : Hid (hd 0 s.size = [48, UInt8.ofNat s.size]) := rfl
  generalize UInt8.ofNat s.size = c at *
  have hcv : (convert 45 9 (.slice (some ⟨w.heap.size, 0, none⟩) 2 2)).run Try.prog (w.alloc (.cells #[.int .u8 48, .int .u8 (c.toNat : Int)] 5)) = .ok (.string (S [48, c])) (w.alloc (.cells #[.int .u8 48, .int .u8 (c.toNat : Int)] 5)) := own_conv (own_two w w.heap.size 48 c (Nat.le_refl _))
  have hs2 : (S [48, c]).size = 2 := by rw [S_size]; rfl
  go_enter Try.func13, Try.ntmps13
  go_wp2_with fail
  go_loopw [6] (fun kv wr => kv = .int .i64 0 ∧ w = wr) (fun _ _ => 0)
  case atStart => exact ⟨rfl, rfl⟩
  case round =>
    obtain ⟨rfl, rfl⟩ := hrel
    go_wp2_with fail
    go_ret
    exact ⟨by rw [hh.out]; rfl, (Below.refl _ _).alloc (Nat.le_refl _) _⟩

set_option maxHeartbeats 400000 in
theorem wrap_big_0 (form : Int) (s : ByteArray) (w : World) (d1 : decide (form < 0) = false) (d2 : decide (4 < form) = true) (hn : s.size ≤ 127) :
    Calls Try.prog 13 #[.int .i64 form, .string s] w fun r w' => r = .returned (.string (S (hd 0 s.size) ++ s)) ∧ Below w.heap.size w w' := by
  have e1 : decide ((127 : Int) < (s.size : Int)) = false := decide_eq_false (by omega)
  have hb : IntKind.u8.wrap (s.size : Int) = ((UInt8.ofNat s.size).toNat : Int) := by rw [u8_of _ (by omega)]; show (s.size : Int) % 256 = _; omega
  have hh : Hid (hd 0 s.size = [48, UInt8.ofNat s.size]) := rfl
  generalize UInt8.ofNat s.size = c at *
  have hcv : (convert 45 9 (.slice (some ⟨w.heap.size, 0, none⟩) 2 2)).run Try.prog (w.alloc (.cells #[.int .u8 48, .int .u8 (c.toNat : Int)] 5)) = .ok (.string (S [48, c])) (w.alloc (.cells #[.int .u8 48, .int .u8 (c.toNat : Int)] 5)) := own_conv (own_two w w.heap.size 48 c (Nat.le_refl _))
  have hs2 : (S [48, c]).size = 2 := by rw [S_size]; rfl
  go_enter Try.func13, Try.ntmps13
  go_wp2_with fail
  go_loopw [6] (fun kv wr => kv = .int .i64 0 ∧ w = wr) (fun _ _ => 0)
  case atStart => exact ⟨rfl, rfl⟩
  case round =>
    obtain ⟨rfl, rfl⟩ := hrel
    go_wp2_with fail
    go_ret
    exact ⟨by rw [hh.out]; rfl, (Below.refl _ _).alloc (Nat.le_refl _) _⟩

set_option maxHeartbeats 400000 in
theorem wrap_0_0 (s : ByteArray) (w : World)  (hn : s.size ≤ 127) :
    Calls Try.prog 13 #[.int .i64 0, .string s] w fun r w' => r = .returned (.string (S (hd 0 s.size) ++ s)) ∧ Below w.heap.size w w' := by
  have e1 : decide ((127 : Int) < (s.size : Int)) = false := decide_eq_false (by omega)
  have hb : IntKind.u8.wrap (s.size : Int) = ((UInt8.ofNat s.size).toNat : Int) := by rw [u8_of _ (by omega)]; show (s.size : Int) % 256 = _; omega
  have hh : Hid (hd 0 s.size = [48, UInt8.ofNat s.size]) := rfl
  generalize UInt8.ofNat s.size = c at *
  have hcv : (convert 45 9 (.slice (some ⟨w.heap.size, 0, none⟩) 2 2)).run Try.prog (w.alloc (.cells #[.int .u8 48, .int .u8 (c.toNat : Int)] 5)) = .ok (.string (S [48, c])) (w.alloc (.cells #[.int .u8 48, .int .u8 (c.toNat : Int)] 5)) := own_conv (own_two w w.heap.size 48 c (Nat.le_refl _))
  have hs2 : (S [48, c]).size = 2 := by rw [S_size]; rfl
  go_enter Try.func13, Try.ntmps13
  go_wp2_with fail
  go_loopw [6] (fun kv wr => kv = .int .i64 0 ∧ w = wr) (fun _ _ => 0)
  case atStart => exact ⟨rfl, rfl⟩
  case round =>
    obtain ⟨rfl, rfl⟩ := hrel
    go_wp2_with fail
    go_ret
    exact ⟨by rw [hh.out]; rfl, (Below.refl _ _).alloc (Nat.le_refl _) _⟩

set_option maxHeartbeats 400000 in
theorem wrap_neg_1 (form : Int) (s : ByteArray) (w : World) (d1 : decide (form < 0) = true) (hn : 127 < s.size) (hn2 : s.size ≤ 255) :
    Calls Try.prog 13 #[.int .i64 form, .string s] w fun r w' => r = .returned (.string (S (hd 1 s.size) ++ s)) ∧ Below w.heap.size w w' := by
  have e1 : decide ((127 : Int) < (s.size : Int)) = true := decide_eq_true (by omega)
  have q0 : IntKind.u8.wrap (s.size : Int) = ((bt s.size 0).toNat : Int) := bt0 _
  have q1 : IntKind.u8.wrap ((s.size : Int) / 256) = ((bt s.size 1).toNat : Int) := bt1 _ (by omega)
  have q2 : (s.size : Int) / 65536 = 0 := by omega
  have q3 : (s.size : Int) / 16777216 = 0 := by omega
  have q4 : (s.size : Int) / 256 = 0 := by omega
  have hh : Hid (hd 1 s.size = [48, 129] ++ bs s.size 1) := rfl
  have hown0 := own_two w w.heap.size 48 129 (Nat.le_refl _)
  have HB0 : Below w.heap.size w (w.alloc (.cells #[.int .u8 48, .int .u8 129] 5)) := (Below.refl _ _).alloc (Nat.le_refl _) _
  have hsm : s.size ≤ 4096 := by omega
  go_enter Try.func13, Try.ntmps13
  go_wp2_with fail
  go_loopw [6] (fun kv wr => kv = .int .i64 1 ∧ w = wr) (fun _ _ => 0)
  case atStart => exact ⟨rfl, rfl⟩
  case round =>
    obtain ⟨rfl, rfl⟩ := hrel
    go_wp2_with fail
    go_loopw [7, 8] (fun hv iv wr => ∃ (j : Nat) (l : List UInt8), j ≤ 1 ∧ iv = .int .i64 ((j : Int) - 1) ∧ Own wr w.heap.size hv l ∧ Hid (l ++ bs s.size j = hd 1 s.size) ∧ Hid (l.length + j = 3) ∧ Below w.heap.size w wr) (fun _ iv _ => (intOf iv + 1).toNat)
    case atStart => exact ⟨1, [48, 129], Nat.le_refl _, rfl, hown0, rfl, rfl, HB0⟩
    case round =>
      clear hown0 HB0
      obtain ⟨j, l, hj, rfl, hown, hl, hl8, HB⟩ := hrel
      have hlL : (S l).size ≤ 8 := by have := hl8.out; rw [S_size]; omega
      have hcv := own_conv hown
      have hor : j = 0 ∨ j = 1 := by omega
      rcases hor with rfl | rfl
      · have hl0 : Hid (l = hd 1 s.size) := by unfold Hid; rw [← hl.out]; simp [bs]
        go_wp2_with fail
        go_ret
        exact ⟨by rw [← hl0.out]; rfl, HB⟩
      · have hl1 : Hid ((l ++ [bt s.size 0]) ++ bs s.size 0 = hd 1 s.size) := by unfold Hid; rw [← hl.out]; simp [bs]
        have hl9 : Hid (l.length ≤ 1099511627776) := by have := hl8.out; unfold Hid; omega
        clear hl hcv
        go_wp2_with (at_builtin; refine push_byte_at _ rfl _ _ rfl w.heap.size _ l (bt s.size 0) _ rfl rfl ?_ ?_ ?_ ?_ ?_; (first | rfl | (simp)); (exact hown); (exact HB.size); (exact hl9.out); intro v1 w1 hown1 hb1)
        go_roundw
        case rel => exact ⟨0, l ++ [bt s.size 0], by omega, rfl, hown1, hl1, by have := hl8.out; unfold Hid; simp; omega, HB.trans hb1⟩
        case measure => simp [intOf]

set_option maxHeartbeats 400000 in
theorem wrap_big_1 (form : Int) (s : ByteArray) (w : World) (d1 : decide (form < 0) = false) (d2 : decide (4 < form) = true) (hn : 127 < s.size) (hn2 : s.size ≤ 255) :
    Calls Try.prog 13 #[.int .i64 form, .string s] w fun r w' => r = .returned (.string (S (hd 1 s.size) ++ s)) ∧ Below w.heap.size w w' := by
  have e1 : decide ((127 : Int) < (s.size : Int)) = true := decide_eq_true (by omega)
  have q0 : IntKind.u8.wrap (s.size : Int) = ((bt s.size 0).toNat : Int) := bt0 _
  have q1 : IntKind.u8.wrap ((s.size : Int) / 256) = ((bt s.size 1).toNat : Int) := bt1 _ (by omega)
  have q2 : (s.size : Int) / 65536 = 0 := by omega
  have q3 : (s.size : Int) / 16777216 = 0 := by omega
  have q4 : (s.size : Int) / 256 = 0 := by omega
  have hh : Hid (hd 1 s.size = [48, 129] ++ bs s.size 1) := rfl
  have hown0 := own_two w w.heap.size 48 129 (Nat.le_refl _)
  have HB0 : Below w.heap.size w (w.alloc (.cells #[.int .u8 48, .int .u8 129] 5)) := (Below.refl _ _).alloc (Nat.le_refl _) _
  have hsm : s.size ≤ 4096 := by omega
  go_enter Try.func13, Try.ntmps13
  go_wp2_with fail
  go_loopw [6] (fun kv wr => kv = .int .i64 1 ∧ w = wr) (fun _ _ => 0)
  case atStart => exact ⟨rfl, rfl⟩
  case round =>
    obtain ⟨rfl, rfl⟩ := hrel
    go_wp2_with fail
    go_loopw [7, 8] (fun hv iv wr => ∃ (j : Nat) (l : List UInt8), j ≤ 1 ∧ iv = .int .i64 ((j : Int) - 1) ∧ Own wr w.heap.size hv l ∧ Hid (l ++ bs s.size j = hd 1 s.size) ∧ Hid (l.length + j = 3) ∧ Below w.heap.size w wr) (fun _ iv _ => (intOf iv + 1).toNat)
    case atStart => exact ⟨1, [48, 129], Nat.le_refl _, rfl, hown0, rfl, rfl, HB0⟩
    case round =>
      clear hown0 HB0
      obtain ⟨j, l, hj, rfl, hown, hl, hl8, HB⟩ := hrel
      have hlL : (S l).size ≤ 8 := by have := hl8.out; rw [S_size]; omega
      have hcv := own_conv hown
      have hor : j = 0 ∨ j = 1 := by omega
      rcases hor with rfl | rfl
      · have hl0 : Hid (l = hd 1 s.size) := by unfold Hid; rw [← hl.out]; simp [bs]
        go_wp2_with fail
        go_ret
        exact ⟨by rw [← hl0.out]; rfl, HB⟩
      · have hl1 : Hid ((l ++ [bt s.size 0]) ++ bs s.size 0 = hd 1 s.size) := by unfold Hid; rw [← hl.out]; simp [bs]
        have hl9 : Hid (l.length ≤ 1099511627776) := by have := hl8.out; unfold Hid; omega
        clear hl hcv
        go_wp2_with (at_builtin; refine push_byte_at _ rfl _ _ rfl w.heap.size _ l (bt s.size 0) _ rfl rfl ?_ ?_ ?_ ?_ ?_; (first | rfl | (simp)); (exact hown); (exact HB.size); (exact hl9.out); intro v1 w1 hown1 hb1)
        go_roundw
        case rel => exact ⟨0, l ++ [bt s.size 0], by omega, rfl, hown1, hl1, by have := hl8.out; unfold Hid; simp; omega, HB.trans hb1⟩
        case measure => simp [intOf]

set_option maxHeartbeats 400000 in
theorem wrap_0_1 (s : ByteArray) (w : World)  (hn : 127 < s.size) (hn2 : s.size ≤ 255) :
    Calls Try.prog 13 #[.int .i64 0, .string s] w fun r w' => r = .returned (.string (S (hd 1 s.size) ++ s)) ∧ Below w.heap.size w w' := by
  have e1 : decide ((127 : Int) < (s.size : Int)) = true := decide_eq_true (by omega)
  have q0 : IntKind.u8.wrap (s.size : Int) = ((bt s.size 0).toNat : Int) := bt0 _
  have q1 : IntKind.u8.wrap ((s.size : Int) / 256) = ((bt s.size 1).toNat : Int) := bt1 _ (by omega)
  have q2 : (s.size : Int) / 65536 = 0 := by omega
  have q3 : (s.size : Int) / 16777216 = 0 := by omega
  have q4 : (s.size : Int) / 256 = 0 := by omega
  have hh : Hid (hd 1 s.size = [48, 129] ++ bs s.size 1) := rfl
  have hown0 := own_two w w.heap.size 48 129 (Nat.le_refl _)
  have HB0 : Below w.heap.size w (w.alloc (.cells #[.int .u8 48, .int .u8 129] 5)) := (Below.refl _ _).alloc (Nat.le_refl _) _
  have hsm : s.size ≤ 4096 := by omega
  go_enter Try.func13, Try.ntmps13
  go_wp2_with fail
  go_loopw [6] (fun kv wr => kv = .int .i64 1 ∧ w = wr) (fun _ _ => 0)
  case atStart => exact ⟨rfl, rfl⟩
  case round =>
    obtain ⟨rfl, rfl⟩ := hrel
    go_wp2_with fail
    go_loopw [7, 8] (fun hv iv wr => ∃ (j : Nat) (l : List UInt8), j ≤ 1 ∧ iv = .int .i64 ((j : Int) - 1) ∧ Own wr w.heap.size hv l ∧ Hid (l ++ bs s.size j = hd 1 s.size) ∧ Hid (l.length + j = 3) ∧ Below w.heap.size w wr) (fun _ iv _ => (intOf iv + 1).toNat)
    case atStart => exact ⟨1, [48, 129], Nat.le_refl _, rfl, hown0, rfl, rfl, HB0⟩
    case round =>
      clear hown0 HB0
      obtain ⟨j, l, hj, rfl, hown, hl, hl8, HB⟩ := hrel
      have hlL : (S l).size ≤ 8 := by have := hl8.out; rw [S_size]; omega
      have hcv := own_conv hown
      have hor : j = 0 ∨ j = 1 := by omega
      rcases hor with rfl | rfl
      · have hl0 : Hid (l = hd 1 s.size) := by unfold Hid; rw [← hl.out]; simp [bs]
        go_wp2_with fail
        go_ret
        exact ⟨by rw [← hl0.out]; rfl, HB⟩
      · have hl1 : Hid ((l ++ [bt s.size 0]) ++ bs s.size 0 = hd 1 s.size) := by unfold Hid; rw [← hl.out]; simp [bs]
        have hl9 : Hid (l.length ≤ 1099511627776) := by have := hl8.out; unfold Hid; omega
        clear hl hcv
        go_wp2_with (at_builtin; refine push_byte_at _ rfl _ _ rfl w.heap.size _ l (bt s.size 0) _ rfl rfl ?_ ?_ ?_ ?_ ?_; (first | rfl | (simp)); (exact hown); (exact HB.size); (exact hl9.out); intro v1 w1 hown1 hb1)
        go_roundw
        case rel => exact ⟨0, l ++ [bt s.size 0], by omega, rfl, hown1, hl1, by have := hl8.out; unfold Hid; simp; omega, HB.trans hb1⟩
        case measure => simp [intOf]

set_option maxHeartbeats 400000 in
theorem wrap_1_1 (s : ByteArray) (w : World)  (hn2 : s.size ≤ 255) :
    Calls Try.prog 13 #[.int .i64 1, .string s] w fun r w' => r = .returned (.string (S (hd 1 s.size) ++ s)) ∧ Below w.heap.size w w' := by
  have q0 : IntKind.u8.wrap (s.size : Int) = ((bt s.size 0).toNat : Int) := bt0 _
  have q1 : IntKind.u8.wrap ((s.size : Int) / 256) = ((bt s.size 1).toNat : Int) := bt1 _ (by omega)
  have q2 : (s.size : Int) / 65536 = 0 := by omega
  have q3 : (s.size : Int) / 16777216 = 0 := by omega
  have q4 : (s.size : Int) / 256 = 0 := by omega
  have hh : Hid (hd 1 s.size = [48, 129] ++ bs s.size 1) := rfl
  have hown0 := own_two w w.heap.size 48 129 (Nat.le_refl _)
  have HB0 : Below w.heap.size w (w.alloc (.cells #[.int .u8 48, .int .u8 129] 5)) := (Below.refl _ _).alloc (Nat.le_refl _) _
  have hsm : s.size ≤ 4096 := by omega
  go_enter Try.func13, Try.ntmps13
  go_wp2_with fail
  go_loopw [6] (fun kv wr => kv = .int .i64 1 ∧ w = wr) (fun _ _ => 0)
  case atStart => exact ⟨rfl, rfl⟩
  case round =>
    obtain ⟨rfl, rfl⟩ := hrel
    go_wp2_with fail
    go_loopw [7, 8] (fun hv iv wr => ∃ (j : Nat) (l : List UInt8), j ≤ 1 ∧ iv = .int .i64 ((j : Int) - 1) ∧ Own wr w.heap.size hv l ∧ Hid (l ++ bs s.size j = hd 1 s.size) ∧ Hid (l.length + j = 3) ∧ Below w.heap.size w wr) (fun _ iv _ => (intOf iv + 1).toNat)
    case atStart => exact ⟨1, [48, 129], Nat.le_refl _, rfl, hown0, rfl, rfl, HB0⟩
    case round =>
      clear hown0 HB0
      obtain ⟨j, l, hj, rfl, hown, hl, hl8, HB⟩ := hrel
      have hlL : (S l).size ≤ 8 := by have := hl8.out; rw [S_size]; omega
      have hcv := own_conv hown
      have hor : j = 0 ∨ j = 1 := by omega
      rcases hor with rfl | rfl
      · have hl0 : Hid (l = hd 1 s.size) := by unfold Hid; rw [← hl.out]; simp [bs]
        go_wp2_with fail
        go_ret
        exact ⟨by rw [← hl0.out]; rfl, HB⟩
      · have hl1 : Hid ((l ++ [bt s.size 0]) ++ bs s.size 0 = hd 1 s.size) := by unfold Hid; rw [← hl.out]; simp [bs]
        have hl9 : Hid (l.length ≤ 1099511627776) := by have := hl8.out; unfold Hid; omega
        clear hl hcv
        go_wp2_with (at_builtin; refine push_byte_at _ rfl _ _ rfl w.heap.size _ l (bt s.size 0) _ rfl rfl ?_ ?_ ?_ ?_ ?_; (first | rfl | (simp)); (exact hown); (exact HB.size); (exact hl9.out); intro v1 w1 hown1 hb1)
        go_roundw
        case rel => exact ⟨0, l ++ [bt s.size 0], by omega, rfl, hown1, hl1, by have := hl8.out; unfold Hid; simp; omega, HB.trans hb1⟩
        case measure => simp [intOf]

set_option maxHeartbeats 400000 in
theorem wrap_neg_2 (form : Int) (s : ByteArray) (w : World) (d1 : decide (form < 0) = true) (hn2 : 255 < s.size) (hn3 : s.size ≤ 4096) :
    Calls Try.prog 13 #[.int .i64 form, .string s] w fun r w' => r = .returned (.string (S (hd 2 s.size) ++ s)) ∧ Below w.heap.size w w' := by
  have e1 : decide ((127 : Int) < (s.size : Int)) = true := decide_eq_true (by omega)
  have q0 : IntKind.u8.wrap (s.size : Int) = ((bt s.size 0).toNat : Int) := bt0 _
  have q1 : IntKind.u8.wrap ((s.size : Int) / 256) = ((bt s.size 1).toNat : Int) := bt1 _ (by omega)
  have q2 : (s.size : Int) / 65536 = 0 := by omega
  have q3 : (s.size : Int) / 16777216 = 0 := by omega
  have q4 : decide (0 < (s.size : Int) / 256) = true := decide_eq_true (by omega)
  have hh : Hid (hd 2 s.size = [48, 130] ++ bs s.size 2) := rfl
  have hown0 := own_two w w.heap.size 48 130 (Nat.le_refl _)
  have HB0 : Below w.heap.size w (w.alloc (.cells #[.int .u8 48, .int .u8 130] 5)) := (Below.refl _ _).alloc (Nat.le_refl _) _
  have hsm : s.size ≤ 4096 := by omega
  go_enter Try.func13, Try.ntmps13
  go_wp2_with fail
  go_loopw [6] (fun kv wr => (kv = .int .i64 1 ∨ kv = .int .i64 2) ∧ w = wr) (fun kv _ => 2 - (intOf kv).toNat)
  case atStart => exact ⟨Or.inl rfl, rfl⟩
  case round =>
    obtain ⟨rfl | rfl, rfl⟩ := hrel
    · go_wp2_with fail
      go_roundw
      case rel => exact ⟨Or.inr rfl, trivial⟩
      case measure => simp [intOf]
    go_wp2_with fail
    go_loopw [7, 8] (fun hv iv wr => ∃ (j : Nat) (l : List UInt8), j ≤ 2 ∧ iv = .int .i64 ((j : Int) - 1) ∧ Own wr w.heap.size hv l ∧ Hid (l ++ bs s.size j = hd 2 s.size) ∧ Hid (l.length + j = 4) ∧ Below w.heap.size w wr) (fun _ iv _ => (intOf iv + 1).toNat)
    case atStart => exact ⟨2, [48, 130], Nat.le_refl _, rfl, hown0, rfl, rfl, HB0⟩
    case round =>
      clear hown0 HB0
      obtain ⟨j, l, hj, rfl, hown, hl, hl8, HB⟩ := hrel
      have hlL : (S l).size ≤ 8 := by have := hl8.out; rw [S_size]; omega
      have hcv := own_conv hown
      have hor : j = 0 ∨ j = 1 ∨ j = 2 := by omega
      rcases hor with rfl | rfl | rfl
      · have hl0 : Hid (l = hd 2 s.size) := by unfold Hid; rw [← hl.out]; simp [bs]
        go_wp2_with fail
        go_ret
        exact ⟨by rw [← hl0.out]; rfl, HB⟩
      · have hl1 : Hid ((l ++ [bt s.size 0]) ++ bs s.size 0 = hd 2 s.size) := by unfold Hid; rw [← hl.out]; simp [bs]
        have hl9 : Hid (l.length ≤ 1099511627776) := by have := hl8.out; unfold Hid; omega
        clear hl hcv
        go_wp2_with (at_builtin; refine push_byte_at _ rfl _ _ rfl w.heap.size _ l (bt s.size 0) _ rfl rfl ?_ ?_ ?_ ?_ ?_; (first | rfl | (simp)); (exact hown); (exact HB.size); (exact hl9.out); intro v1 w1 hown1 hb1)
        go_roundw
        case rel => exact ⟨0, l ++ [bt s.size 0], by omega, rfl, hown1, hl1, by have := hl8.out; unfold Hid; simp; omega, HB.trans hb1⟩
        case measure => simp [intOf]
      · have hl1 : Hid ((l ++ [bt s.size 1]) ++ bs s.size 1 = hd 2 s.size) := by unfold Hid; rw [← hl.out]; simp [bs]
        have hl9 : Hid (l.length ≤ 1099511627776) := by have := hl8.out; unfold Hid; omega
        clear hl hcv
        go_wp2_with (at_builtin; refine push_byte_at _ rfl _ _ rfl w.heap.size _ l (bt s.size 1) _ rfl rfl ?_ ?_ ?_ ?_ ?_; (first | rfl | (simp)); (exact hown); (exact HB.size); (exact hl9.out); intro v1 w1 hown1 hb1)
        go_roundw
        case rel => exact ⟨1, l ++ [bt s.size 1], by omega, rfl, hown1, hl1, by have := hl8.out; unfold Hid; simp; omega, HB.trans hb1⟩
        case measure => simp [intOf]

set_option maxHeartbeats 400000 in
theorem wrap_big_2 (form : Int) (s : ByteArray) (w : World) (d1 : decide (form < 0) = false) (d2 : decide (4 < form) = true) (hn2 : 255 < s.size) (hn3 : s.size ≤ 4096) :
    Calls Try.prog 13 #[.int .i64 form, .string s] w fun r w' => r = .returned (.string (S (hd 2 s.size) ++ s)) ∧ Below w.heap.size w w' := by
  have e1 : decide ((127 : Int) < (s.size : Int)) = true := decide_eq_true (by omega)
  have q0 : IntKind.u8.wrap (s.size : Int) = ((bt s.size 0).toNat : Int) := bt0 _
  have q1 : IntKind.u8.wrap ((s.size : Int) / 256) = ((bt s.size 1).toNat : Int) := bt1 _ (by omega)
  have q2 : (s.size : Int) / 65536 = 0 := by omega
  have q3 : (s.size : Int) / 16777216 = 0 := by omega
  have q4 : decide (0 < (s.size : Int) / 256) = true := decide_eq_true (by omega)
  have hh : Hid (hd 2 s.size = [48, 130] ++ bs s.size 2) := rfl
  have hown0 := own_two w w.heap.size 48 130 (Nat.le_refl _)
  have HB0 : Below w.heap.size w (w.alloc (.cells #[.int .u8 48, .int .u8 130] 5)) := (Below.refl _ _).alloc (Nat.le_refl _) _
  have hsm : s.size ≤ 4096 := by omega
  go_enter Try.func13, Try.ntmps13
  go_wp2_with fail
  go_loopw [6] (fun kv wr => (kv = .int .i64 1 ∨ kv = .int .i64 2) ∧ w = wr) (fun kv _ => 2 - (intOf kv).toNat)
  case atStart => exact ⟨Or.inl rfl, rfl⟩
  case round =>
    obtain ⟨rfl | rfl, rfl⟩ := hrel
    · go_wp2_with fail
      go_roundw
      case rel => exact ⟨Or.inr rfl, trivial⟩
      case measure => simp [intOf]
    go_wp2_with fail
    go_loopw [7, 8] (fun hv iv wr => ∃ (j : Nat) (l : List UInt8), j ≤ 2 ∧ iv = .int .i64 ((j : Int) - 1) ∧ Own wr w.heap.size hv l ∧ Hid (l ++ bs s.size j = hd 2 s.size) ∧ Hid (l.length + j = 4) ∧ Below w.heap.size w wr) (fun _ iv _ => (intOf iv + 1).toNat)
    case atStart => exact ⟨2, [48, 130], Nat.le_refl _, rfl, hown0, rfl, rfl, HB0⟩
    case round =>
      clear hown0 HB0
      obtain ⟨j, l, hj, rfl, hown, hl, hl8, HB⟩ := hrel
      have hlL : (S l).size ≤ 8 := by have := hl8.out; rw [S_size]; omega
      have hcv := own_conv hown
      have hor : j = 0 ∨ j = 1 ∨ j = 2 := by omega
      rcases hor with rfl | rfl | rfl
      · have hl0 : Hid (l = hd 2 s.size) := by unfold Hid; rw [← hl.out]; simp [bs]
        go_wp2_with fail
        go_ret
        exact ⟨by rw [← hl0.out]; rfl, HB⟩
      · have hl1 : Hid ((l ++ [bt s.size 0]) ++ bs s.size 0 = hd 2 s.size) := by unfold Hid; rw [← hl.out]; simp [bs]
        have hl9 : Hid (l.length ≤ 1099511627776) := by have := hl8.out; unfold Hid; omega
        clear hl hcv
        go_wp2_with (at_builtin; refine push_byte_at _ rfl _ _ rfl w.heap.size _ l (bt s.size 0) _ rfl rfl ?_ ?_ ?_ ?_ ?_; (first | rfl | (simp)); (exact hown); (exact HB.size); (exact hl9.out); intro v1 w1 hown1 hb1)
        go_roundw
        case rel => exact ⟨0, l ++ [bt s.size 0], by omega, rfl, hown1, hl1, by have := hl8.out; unfold Hid; simp; omega, HB.trans hb1⟩
        case measure => simp [intOf]
      · have hl1 : Hid ((l ++ [bt s.size 1]) ++ bs s.size 1 = hd 2 s.size) := by unfold Hid; rw [← hl.out]; simp [bs]
        have hl9 : Hid (l.length ≤ 1099511627776) := by have := hl8.out; unfold Hid; omega
        clear hl hcv
        go_wp2_with (at_builtin; refine push_byte_at _ rfl _ _ rfl w.heap.size _ l (bt s.size 1) _ rfl rfl ?_ ?_ ?_ ?_ ?_; (first | rfl | (simp)); (exact hown); (exact HB.size); (exact hl9.out); intro v1 w1 hown1 hb1)
        go_roundw
        case rel => exact ⟨1, l ++ [bt s.size 1], by omega, rfl, hown1, hl1, by have := hl8.out; unfold Hid; simp; omega, HB.trans hb1⟩
        case measure => simp [intOf]

set_option maxHeartbeats 400000 in
theorem wrap_0_2 (s : ByteArray) (w : World)  (hn2 : 255 < s.size) (hn3 : s.size ≤ 4096) :
    Calls Try.prog 13 #[.int .i64 0, .string s] w fun r w' => r = .returned (.string (S (hd 2 s.size) ++ s)) ∧ Below w.heap.size w w' := by
  have e1 : decide ((127 : Int) < (s.size : Int)) = true := decide_eq_true (by omega)
  have q0 : IntKind.u8.wrap (s.size : Int) = ((bt s.size 0).toNat : Int) := bt0 _
  have q1 : IntKind.u8.wrap ((s.size : Int) / 256) = ((bt s.size 1).toNat : Int) := bt1 _ (by omega)
  have q2 : (s.size : Int) / 65536 = 0 := by omega
  have q3 : (s.size : Int) / 16777216 = 0 := by omega
  have q4 : decide (0 < (s.size : Int) / 256) = true := decide_eq_true (by omega)
  have hh : Hid (hd 2 s.size = [48, 130] ++ bs s.size 2) := rfl
  have hown0 := own_two w w.heap.size 48 130 (Nat.le_refl _)
  have HB0 : Below w.heap.size w (w.alloc (.cells #[.int .u8 48, .int .u8 130] 5)) := (Below.refl _ _).alloc (Nat.le_refl _) _
  have hsm : s.size ≤ 4096 := by omega
  go_enter Try.func13, Try.ntmps13
  go_wp2_with fail
  go_loopw [6] (fun kv wr => (kv = .int .i64 1 ∨ kv = .int .i64 2) ∧ w = wr) (fun kv _ => 2 - (intOf kv).toNat)
  case atStart => exact ⟨Or.inl rfl, rfl⟩
  case round =>
    obtain ⟨rfl | rfl, rfl⟩ := hrel
    · go_wp2_with fail
      go_roundw
      case rel => exact ⟨Or.inr rfl, trivial⟩
      case measure => simp [intOf]
    go_wp2_with fail
    go_loopw [7, 8] (fun hv iv wr => ∃ (j : Nat) (l : List UInt8), j ≤ 2 ∧ iv = .int .i64 ((j : Int) - 1) ∧ Own wr w.heap.size hv l ∧ Hid (l ++ bs s.size j = hd 2 s.size) ∧ Hid (l.length + j = 4) ∧ Below w.heap.size w wr) (fun _ iv _ => (intOf iv + 1).toNat)
    case atStart => exact ⟨2, [48, 130], Nat.le_refl _, rfl, hown0, rfl, rfl, HB0⟩
    case round =>
      clear hown0 HB0
      obtain ⟨j, l, hj, rfl, hown, hl, hl8, HB⟩ := hrel
      have hlL : (S l).size ≤ 8 := by have := hl8.out; rw [S_size]; omega
      have hcv := own_conv hown
      have hor : j = 0 ∨ j = 1 ∨ j = 2 := by omega
      rcases hor with rfl | rfl | rfl
      · have hl0 : Hid (l = hd 2 s.size) := by unfold Hid; rw [← hl.out]; simp [bs]
        go_wp2_with fail
        go_ret
        exact ⟨by rw [← hl0.out]; rfl, HB⟩
      · have hl1 : Hid ((l ++ [bt s.size 0]) ++ bs s.size 0 = hd 2 s.size) := by unfold Hid; rw [← hl.out]; simp [bs]
        have hl9 : Hid (l.length ≤ 1099511627776) := by have := hl8.out; unfold Hid; omega
        clear hl hcv
        go_wp2_with (at_builtin; refine push_byte_at _ rfl _ _ rfl w.heap.size _ l (bt s.size 0) _ rfl rfl ?_ ?_ ?_ ?_ ?_; (first | rfl | (simp)); (exact hown); (exact HB.size); (exact hl9.out); intro v1 w1 hown1 hb1)
        go_roundw
        case rel => exact ⟨0, l ++ [bt s.size 0], by omega, rfl, hown1, hl1, by have := hl8.out; unfold Hid; simp; omega, HB.trans hb1⟩
        case measure => simp [intOf]
      · have hl1 : Hid ((l ++ [bt s.size 1]) ++ bs s.size 1 = hd 2 s.size) := by unfold Hid; rw [← hl.out]; simp [bs]
        have hl9 : Hid (l.length ≤ 1099511627776) := by have := hl8.out; unfold Hid; omega
        clear hl hcv
        go_wp2_with (at_builtin; refine push_byte_at _ rfl _ _ rfl w.heap.size _ l (bt s.size 1) _ rfl rfl ?_ ?_ ?_ ?_ ?_; (first | rfl | (simp)); (exact hown); (exact HB.size); (exact hl9.out); intro v1 w1 hown1 hb1)
        go_roundw
        case rel => exact ⟨1, l ++ [bt s.size 1], by omega, rfl, hown1, hl1, by have := hl8.out; unfold Hid; simp; omega, HB.trans hb1⟩
        case measure => simp [intOf]

set_option maxHeartbeats 400000 in
theorem wrap_1_2 (s : ByteArray) (w : World)  (hn2 : 255 < s.size) (hn3 : s.size ≤ 4096) :
    Calls Try.prog 13 #[.int .i64 1, .string s] w fun r w' => r = .returned (.string (S (hd 2 s.size) ++ s)) ∧ Below w.heap.size w w' := by
  have q0 : IntKind.u8.wrap (s.size : Int) = ((bt s.size 0).toNat : Int) := bt0 _
  have q1 : IntKind.u8.wrap ((s.size : Int) / 256) = ((bt s.size 1).toNat : Int) := bt1 _ (by omega)
  have q2 : (s.size : Int) / 65536 = 0 := by omega
  have q3 : (s.size : Int) / 16777216 = 0 := by omega
  have q4 : decide (0 < (s.size : Int) / 256) = true := decide_eq_true (by omega)
  have hh : Hid (hd 2 s.size = [48, 130] ++ bs s.size 2) := rfl
  have hown0 := own_two w w.heap.size 48 130 (Nat.le_refl _)
  have HB0 : Below w.heap.size w (w.alloc (.cells #[.int .u8 48, .int .u8 130] 5)) := (Below.refl _ _).alloc (Nat.le_refl _) _
  have hsm : s.size ≤ 4096 := by omega
  go_enter Try.func13, Try.ntmps13
  go_wp2_with fail
  go_loopw [6] (fun kv wr => (kv = .int .i64 1 ∨ kv = .int .i64 2) ∧ w = wr) (fun kv _ => 2 - (intOf kv).toNat)
  case atStart => exact ⟨Or.inl rfl, rfl⟩
  case round =>
    obtain ⟨rfl | rfl, rfl⟩ := hrel
    · go_wp2_with fail
      go_roundw
      case rel => exact ⟨Or.inr rfl, trivial⟩
      case measure => simp [intOf]
    go_wp2_with fail
    go_loopw [7, 8] (fun hv iv wr => ∃ (j : Nat) (l : List UInt8), j ≤ 2 ∧ iv = .int .i64 ((j : Int) - 1) ∧ Own wr w.heap.size hv l ∧ Hid (l ++ bs s.size j = hd 2 s.size) ∧ Hid (l.length + j = 4) ∧ Below w.heap.size w wr) (fun _ iv _ => (intOf iv + 1).toNat)
    case atStart => exact ⟨2, [48, 130], Nat.le_refl _, rfl, hown0, rfl, rfl, HB0⟩
    case round =>
      clear hown0 HB0
      obtain ⟨j, l, hj, rfl, hown, hl, hl8, HB⟩ := hrel
      have hlL : (S l).size ≤ 8 := by have := hl8.out; rw [S_size]; omega
      have hcv := own_conv hown
      have hor : j = 0 ∨ j = 1 ∨ j = 2 := by omega
      rcases hor with rfl | rfl | rfl
      · have hl0 : Hid (l = hd 2 s.size) := by unfold Hid; rw [← hl.out]; simp [bs]
        go_wp2_with fail
        go_ret
        exact ⟨by rw [← hl0.out]; rfl, HB⟩
      · have hl1 : Hid ((l ++ [bt s.size 0]) ++ bs s.size 0 = hd 2 s.size) := by unfold Hid; rw [← hl.out]; simp [bs]
        have hl9 : Hid (l.length ≤ 1099511627776) := by have := hl8.out; unfold Hid; omega
        clear hl hcv
        go_wp2_with (at_builtin; refine push_byte_at _ rfl _ _ rfl w.heap.size _ l (bt s.size 0) _ rfl rfl ?_ ?_ ?_ ?_ ?_; (first | rfl | (simp)); (exact hown); (exact HB.size); (exact hl9.out); intro v1 w1 hown1 hb1)
        go_roundw
        case rel => exact ⟨0, l ++ [bt s.size 0], by omega, rfl, hown1, hl1, by have := hl8.out; unfold Hid; simp; omega, HB.trans hb1⟩
        case measure => simp [intOf]
      · have hl1 : Hid ((l ++ [bt s.size 1]) ++ bs s.size 1 = hd 2 s.size) := by unfold Hid; rw [← hl.out]; simp [bs]
        have hl9 : Hid (l.length ≤ 1099511627776) := by have := hl8.out; unfold Hid; omega
        clear hl hcv
        go_wp2_with (at_builtin; refine push_byte_at _ rfl _ _ rfl w.heap.size _ l (bt s.size 1) _ rfl rfl ?_ ?_ ?_ ?_ ?_; (first | rfl | (simp)); (exact hown); (exact HB.size); (exact hl9.out); intro v1 w1 hown1 hb1)
        go_roundw
        case rel => exact ⟨1, l ++ [bt s.size 1], by omega, rfl, hown1, hl1, by have := hl8.out; unfold Hid; simp; omega, HB.trans hb1⟩
        case measure => simp [intOf]

set_option maxHeartbeats 400000 in
theorem wrap_2_2 (s : ByteArray) (w : World)  (hn3 : s.size ≤ 4096) :
    Calls Try.prog 13 #[.int .i64 2, .string s] w fun r w' => r = .returned (.string (S (hd 2 s.size) ++ s)) ∧ Below w.heap.size w w' := by
  have q0 : IntKind.u8.wrap (s.size : Int) = ((bt s.size 0).toNat : Int) := bt0 _
  have q1 : IntKind.u8.wrap ((s.size : Int) / 256) = ((bt s.size 1).toNat : Int) := bt1 _ (by omega)
  have q2 : (s.size : Int) / 65536 = 0 := by omega
  have q3 : (s.size : Int) / 16777216 = 0 := by omega
  have hh : Hid (hd 2 s.size = [48, 130] ++ bs s.size 2) := rfl
  have hown0 := own_two w w.heap.size 48 130 (Nat.le_refl _)
  have HB0 : Below w.heap.size w (w.alloc (.cells #[.int .u8 48, .int .u8 130] 5)) := (Below.refl _ _).alloc (Nat.le_refl _) _
  have hsm : s.size ≤ 4096 := by omega
  go_enter Try.func13, Try.ntmps13
  go_wp2_with fail
  go_loopw [6] (fun kv wr => kv = .int .i64 2 ∧ w = wr) (fun _ _ => 0)
  case atStart => exact ⟨rfl, rfl⟩
  case round =>
    obtain ⟨rfl, rfl⟩ := hrel
    go_wp2_with fail
    go_loopw [7, 8] (fun hv iv wr => ∃ (j : Nat) (l : List UInt8), j ≤ 2 ∧ iv = .int .i64 ((j : Int) - 1) ∧ Own wr w.heap.size hv l ∧ Hid (l ++ bs s.size j = hd 2 s.size) ∧ Hid (l.length + j = 4) ∧ Below w.heap.size w wr) (fun _ iv _ => (intOf iv + 1).toNat)
    case atStart => exact ⟨2, [48, 130], Nat.le_refl _, rfl, hown0, rfl, rfl, HB0⟩
    case round =>
      clear hown0 HB0
      obtain ⟨j, l, hj, rfl, hown, hl, hl8, HB⟩ := hrel
      have hlL : (S l).size ≤ 8 := by have := hl8.out; rw [S_size]; omega
      have hcv := own_conv hown
      have hor : j = 0 ∨ j = 1 ∨ j = 2 := by omega
      rcases hor with rfl | rfl | rfl
      · have hl0 : Hid (l = hd 2 s.size) := by unfold Hid; rw [← hl.out]; simp [bs]
        go_wp2_with fail
        go_ret
        exact ⟨by rw [← hl0.out]; rfl, HB⟩
      · have hl1 : Hid ((l ++ [bt s.size 0]) ++ bs s.size 0 = hd 2 s.size) := by unfold Hid; rw [← hl.out]; simp [bs]
        have hl9 : Hid (l.length ≤ 1099511627776) := by have := hl8.out; unfold Hid; omega
        clear hl hcv
        go_wp2_with (at_builtin; refine push_byte_at _ rfl _ _ rfl w.heap.size _ l (bt s.size 0) _ rfl rfl ?_ ?_ ?_ ?_ ?_; (first | rfl | (simp)); (exact hown); (exact HB.size); (exact hl9.out); intro v1 w1 hown1 hb1)
        go_roundw
        case rel => exact ⟨0, l ++ [bt s.size 0], by omega, rfl, hown1, hl1, by have := hl8.out; unfold Hid; simp; omega, HB.trans hb1⟩
        case measure => simp [intOf]
      · have hl1 : Hid ((l ++ [bt s.size 1]) ++ bs s.size 1 = hd 2 s.size) := by unfold Hid; rw [← hl.out]; simp [bs]
        have hl9 : Hid (l.length ≤ 1099511627776) := by have := hl8.out; unfold Hid; omega
        clear hl hcv
        go_wp2_with (at_builtin; refine push_byte_at _ rfl _ _ rfl w.heap.size _ l (bt s.size 1) _ rfl rfl ?_ ?_ ?_ ?_ ?_; (first | rfl | (simp)); (exact hown); (exact HB.size); (exact hl9.out); intro v1 w1 hown1 hb1)
        go_roundw
        case rel => exact ⟨1, l ++ [bt s.size 1], by omega, rfl, hown1, hl1, by have := hl8.out; unfold Hid; simp; omega, HB.trans hb1⟩
        case measure => simp [intOf]

set_option maxHeartbeats 400000 in
theorem wrap_3_3 (s : ByteArray) (w : World)  (hn3 : s.size ≤ 4096) :
    Calls Try.prog 13 #[.int .i64 3, .string s] w fun r w' => r = .returned (.string (S (hd 3 s.size) ++ s)) ∧ Below w.heap.size w w' := by
  have q0 : IntKind.u8.wrap (s.size : Int) = ((bt s.size 0).toNat : Int) := bt0 _
  have q1 : IntKind.u8.wrap ((s.size : Int) / 256) = ((bt s.size 1).toNat : Int) := bt1 _ (by omega)
  have q2 : (s.size : Int) / 65536 = 0 := by omega
  have q3 : (s.size : Int) / 16777216 = 0 := by omega
  have hh : Hid (hd 3 s.size = [48, 131] ++ bs s.size 3) := rfl
  have hown0 := own_two w w.heap.size 48 131 (Nat.le_refl _)
  have HB0 : Below w.heap.size w (w.alloc (.cells #[.int .u8 48, .int .u8 131] 5)) := (Below.refl _ _).alloc (Nat.le_refl _) _
  have hsm : s.size ≤ 4096 := by omega
  go_enter Try.func13, Try.ntmps13
  go_wp2_with fail
  go_loopw [6] (fun kv wr => kv = .int .i64 3 ∧ w = wr) (fun _ _ => 0)
  case atStart => exact ⟨rfl, rfl⟩
  case round =>
    obtain ⟨rfl, rfl⟩ := hrel
    go_wp2_with fail
    go_loopw [7, 8] (fun hv iv wr => ∃ (j : Nat) (l : List UInt8), j ≤ 3 ∧ iv = .int .i64 ((j : Int) - 1) ∧ Own wr w.heap.size hv l ∧ Hid (l ++ bs s.size j = hd 3 s.size) ∧ Hid (l.length + j = 5) ∧ Below w.heap.size w wr) (fun _ iv _ => (intOf iv + 1).toNat)
    case atStart => exact ⟨3, [48, 131], Nat.le_refl _, rfl, hown0, rfl, rfl, HB0⟩
    case round =>
      clear hown0 HB0
      obtain ⟨j, l, hj, rfl, hown, hl, hl8, HB⟩ := hrel
      have hlL : (S l).size ≤ 8 := by have := hl8.out; rw [S_size]; omega
      have hcv := own_conv hown
      have hor : j = 0 ∨ j = 1 ∨ j = 2 ∨ j = 3 := by omega
      rcases hor with rfl | rfl | rfl | rfl
      · have hl0 : Hid (l = hd 3 s.size) := by unfold Hid; rw [← hl.out]; simp [bs]
        go_wp2_with fail
        go_ret
        exact ⟨by rw [← hl0.out]; rfl, HB⟩
      · have hl1 : Hid ((l ++ [bt s.size 0]) ++ bs s.size 0 = hd 3 s.size) := by unfold Hid; rw [← hl.out]; simp [bs]
        have hl9 : Hid (l.length ≤ 1099511627776) := by have := hl8.out; unfold Hid; omega
        clear hl hcv
        go_wp2_with (at_builtin; refine push_byte_at _ rfl _ _ rfl w.heap.size _ l (bt s.size 0) _ rfl rfl ?_ ?_ ?_ ?_ ?_; (first | rfl | (simp)); (exact hown); (exact HB.size); (exact hl9.out); intro v1 w1 hown1 hb1)
        go_roundw
        case rel => exact ⟨0, l ++ [bt s.size 0], by omega, rfl, hown1, hl1, by have := hl8.out; unfold Hid; simp; omega, HB.trans hb1⟩
        case measure => simp [intOf]
      · have hl1 : Hid ((l ++ [bt s.size 1]) ++ bs s.size 1 = hd 3 s.size) := by unfold Hid; rw [← hl.out]; simp [bs]
        have hl9 : Hid (l.length ≤ 1099511627776) := by have := hl8.out; unfold Hid; omega
        clear hl hcv
        go_wp2_with (at_builtin; refine push_byte_at _ rfl _ _ rfl w.heap.size _ l (bt s.size 1) _ rfl rfl ?_ ?_ ?_ ?_ ?_; (first | rfl | (simp)); (exact hown); (exact HB.size); (exact hl9.out); intro v1 w1 hown1 hb1)
        go_roundw
        case rel => exact ⟨1, l ++ [bt s.size 1], by omega, rfl, hown1, hl1, by have := hl8.out; unfold Hid; simp; omega, HB.trans hb1⟩
        case measure => simp [intOf]
      · have hl1 : Hid ((l ++ [bt s.size 2]) ++ bs s.size 2 = hd 3 s.size) := by unfold Hid; rw [← hl.out]; simp [bs]
        have hl9 : Hid (l.length ≤ 1099511627776) := by have := hl8.out; unfold Hid; omega
        clear hl hcv
        go_wp2_with (at_builtin; refine push_byte_at _ rfl _ _ rfl w.heap.size _ l (bt s.size 2) _ rfl rfl ?_ ?_ ?_ ?_ ?_; (first | rfl | (simp)); (exact hown); (exact HB.size); (exact hl9.out); intro v1 w1 hown1 hb1)
        go_roundw
        case rel => exact ⟨2, l ++ [bt s.size 2], by omega, rfl, hown1, hl1, by have := hl8.out; unfold Hid; simp; omega, HB.trans hb1⟩
        case measure => simp [intOf]

set_option maxHeartbeats 400000 in
theorem wrap_4_4 (s : ByteArray) (w : World)  (hn3 : s.size ≤ 4096) :
    Calls Try.prog 13 #[.int .i64 4, .string s] w fun r w' => r = .returned (.string (S (hd 4 s.size) ++ s)) ∧ Below w.heap.size w w' := by
  have q0 : IntKind.u8.wrap (s.size : Int) = ((bt s.size 0).toNat : Int) := bt0 _
  have q1 : IntKind.u8.wrap ((s.size : Int) / 256) = ((bt s.size 1).toNat : Int) := bt1 _ (by omega)
  have q2 : (s.size : Int) / 65536 = 0 := by omega
  have q3 : (s.size : Int) / 16777216 = 0 := by omega
  have hh : Hid (hd 4 s.size = [48, 132] ++ bs s.size 4) := rfl
  have hown0 := own_two w w.heap.size 48 132 (Nat.le_refl _)
  have HB0 : Below w.heap.size w (w.alloc (.cells #[.int .u8 48, .int .u8 132] 5)) := (Below.refl _ _).alloc (Nat.le_refl _) _
  have hsm : s.size ≤ 4096 := by omega
  go_enter Try.func13, Try.ntmps13
  go_wp2_with fail
  go_loopw [6] (fun kv wr => kv = .int .i64 4 ∧ w = wr) (fun _ _ => 0)
  case atStart => exact ⟨rfl, rfl⟩
  case round =>
    obtain ⟨rfl, rfl⟩ := hrel
    go_wp2_with fail
    go_loopw [7, 8] (fun hv iv wr => ∃ (j : Nat) (l : List UInt8), j ≤ 4 ∧ iv = .int .i64 ((j : Int) - 1) ∧ Own wr w.heap.size hv l ∧ Hid (l ++ bs s.size j = hd 4 s.size) ∧ Hid (l.length + j = 6) ∧ Below w.heap.size w wr) (fun _ iv _ => (intOf iv + 1).toNat)
    case atStart => exact ⟨4, [48, 132], Nat.le_refl _, rfl, hown0, rfl, rfl, HB0⟩
    case round =>
      clear hown0 HB0
      obtain ⟨j, l, hj, rfl, hown, hl, hl8, HB⟩ := hrel
      have hlL : (S l).size ≤ 8 := by have := hl8.out; rw [S_size]; omega
      have hcv := own_conv hown
      have hor : j = 0 ∨ j = 1 ∨ j = 2 ∨ j = 3 ∨ j = 4 := by omega
      rcases hor with rfl | rfl | rfl | rfl | rfl
      · have hl0 : Hid (l = hd 4 s.size) := by unfold Hid; rw [← hl.out]; simp [bs]
        go_wp2_with fail
        go_ret
        exact ⟨by rw [← hl0.out]; rfl, HB⟩
      · have hl1 : Hid ((l ++ [bt s.size 0]) ++ bs s.size 0 = hd 4 s.size) := by unfold Hid; rw [← hl.out]; simp [bs]
        have hl9 : Hid (l.length ≤ 1099511627776) := by have := hl8.out; unfold Hid; omega
        clear hl hcv
        go_wp2_with (at_builtin; refine push_byte_at _ rfl _ _ rfl w.heap.size _ l (bt s.size 0) _ rfl rfl ?_ ?_ ?_ ?_ ?_; (first | rfl | (simp)); (exact hown); (exact HB.size); (exact hl9.out); intro v1 w1 hown1 hb1)
        go_roundw
        case rel => exact ⟨0, l ++ [bt s.size 0], by omega, rfl, hown1, hl1, by have := hl8.out; unfold Hid; simp; omega, HB.trans hb1⟩
        case measure => simp [intOf]
      · have hl1 : Hid ((l ++ [bt s.size 1]) ++ bs s.size 1 = hd 4 s.size) := by unfold Hid; rw [← hl.out]; simp [bs]
        have hl9 : Hid (l.length ≤ 1099511627776) := by have := hl8.out; unfold Hid; omega
        clear hl hcv
        go_wp2_with (at_builtin; refine push_byte_at _ rfl _ _ rfl w.heap.size _ l (bt s.size 1) _ rfl rfl ?_ ?_ ?_ ?_ ?_; (first | rfl | (simp)); (exact hown); (exact HB.size); (exact hl9.out); intro v1 w1 hown1 hb1)
        go_roundw
        case rel => exact ⟨1, l ++ [bt s.size 1], by omega, rfl, hown1, hl1, by have := hl8.out; unfold Hid; simp; omega, HB.trans hb1⟩
        case measure => simp [intOf]
      · have hl1 : Hid ((l ++ [bt s.size 2]) ++ bs s.size 2 = hd 4 s.size) := by unfold Hid; rw [← hl.out]; simp [bs]
        have hl9 : Hid (l.length ≤ 1099511627776) := by have := hl8.out; unfold Hid; omega
        clear hl hcv
        go_wp2_with (at_builtin; refine push_byte_at _ rfl _ _ rfl w.heap.size _ l (bt s.size 2) _ rfl rfl ?_ ?_ ?_ ?_ ?_; (first | rfl | (simp)); (exact hown); (exact HB.size); (exact hl9.out); intro v1 w1 hown1 hb1)
        go_roundw
        case rel => exact ⟨2, l ++ [bt s.size 2], by omega, rfl, hown1, hl1, by have := hl8.out; unfold Hid; simp; omega, HB.trans hb1⟩
        case measure => simp [intOf]
      · have hl1 : Hid ((l ++ [bt s.size 3]) ++ bs s.size 3 = hd 4 s.size) := by unfold Hid; rw [← hl.out]; simp [bs]
        have hl9 : Hid (l.length ≤ 1099511627776) := by have := hl8.out; unfold Hid; omega
        clear hl hcv
        go_wp2_with (at_builtin; refine push_byte_at _ rfl _ _ rfl w.heap.size _ l (bt s.size 3) _ rfl rfl ?_ ?_ ?_ ?_ ?_; (first | rfl | (simp)); (exact hown); (exact HB.size); (exact hl9.out); intro v1 w1 hown1 hb1)
        go_roundw
        case rel => exact ⟨3, l ++ [bt s.size 3], by omega, rfl, hown1, hl1, by have := hl8.out; unfold Hid; simp; omega, HB.trans hb1⟩
        case measure => simp [intOf]

end Go.Proofs.Ytddkefjcpgdomaa
