import Derived.Test.YtofghgggllfafaaDoorFlBas
namespace Go.Proofs.YtofghgggllfafaaDoor
open Go.RowKit
set_option linter.unusedVariables false

set_option maxRecDepth 100000 in
set_option maxHeartbeats 4000000 in
theorem rn0 (w Wb : World) (d1 d2 o1 o2 : Int) (s1 s2 v1 v2 i1 i2 f1 f2 r1 r2 : ByteArray) (a1 a2 : Option Addr) (m1 n1 m2 n2 : Nat) (b1 b2 : Bool)
    (hWb : (w.alloc (.cells #[.int .i64 d1, .int .i64 o1, .string s1, .string v1, .string i1, .slice a1 m1 n1, .string f1, .string r1, .bool b1] 38)).alloc (.cells #[.int .i64 d2, .int .i64 o2, .string s2, .string v2, .string i2, .slice a2 m2 n2, .string f2, .string r2, .bool b2] 38) = Wb)
    (c0 : Wb.cell? ⟨w.heap.size, 0, none⟩ = some (.int .i64 d1)) (e0 : Wb.cell? ⟨w.heap.size + 1, 0, none⟩ = some (.int .i64 d2)) (k : (d1 == d2) = false) (k2 : (d1 != d2) = true) :
    Calls Tryd.prog 26 #[.agg #[.int .i64 d1, .int .i64 o1, .string s1, .string v1, .string i1, .slice a1 m1 n1, .string f1, .string r1, .bool b1], .agg #[.int .i64 d2, .int .i64 o2, .string s2, .string v2, .string i2, .slice a2 m2 n2, .string f2, .string r2, .bool b2]] w fun e w' => e = .returned (.bool false) ∧ Below Wb.heap.size Wb w' := by
  go_enter Tryd.func26, Tryd.ntmps26
  go_upto_region 1 with fail
  clear hWb
  go_wp2_with fail
  go_ret
  exact ⟨rfl, Below.refl _ _⟩

set_option maxRecDepth 100000 in
set_option maxHeartbeats 4000000 in
theorem rn1 (w Wb : World) (d1 d2 o1 o2 : Int) (s1 s2 v1 v2 i1 i2 f1 f2 r1 r2 : ByteArray) (a1 a2 : Option Addr) (m1 n1 m2 n2 : Nat) (b1 b2 : Bool)
    (hWb : (w.alloc (.cells #[.int .i64 d1, .int .i64 o1, .string s1, .string v1, .string i1, .slice a1 m1 n1, .string f1, .string r1, .bool b1] 38)).alloc (.cells #[.int .i64 d1, .int .i64 o2, .string s2, .string v2, .string i2, .slice a2 m2 n2, .string f2, .string r2, .bool b2] 38) = Wb)
    (c0 : Wb.cell? ⟨w.heap.size, 0, none⟩ = some (.int .i64 d1)) (e0 : Wb.cell? ⟨w.heap.size + 1, 0, none⟩ = some (.int .i64 d1)) (c1 : Wb.cell? ⟨w.heap.size, 1, none⟩ = some (.int .i64 o1)) (e1 : Wb.cell? ⟨w.heap.size + 1, 1, none⟩ = some (.int .i64 o2)) (k : (o1 == o2) = false) (k2 : (o1 != o2) = true) :
    Calls Tryd.prog 26 #[.agg #[.int .i64 d1, .int .i64 o1, .string s1, .string v1, .string i1, .slice a1 m1 n1, .string f1, .string r1, .bool b1], .agg #[.int .i64 d1, .int .i64 o2, .string s2, .string v2, .string i2, .slice a2 m2 n2, .string f2, .string r2, .bool b2]] w fun e w' => e = .returned (.bool false) ∧ Below Wb.heap.size Wb w' := by
  go_enter Tryd.func26, Tryd.ntmps26
  go_upto_region 1 with fail
  clear hWb
  go_wp2_with fail
  go_ret
  exact ⟨rfl, Below.refl _ _⟩

set_option maxRecDepth 100000 in
set_option maxHeartbeats 4000000 in
theorem rn2 (w Wb : World) (d1 d2 o1 o2 : Int) (s1 s2 v1 v2 i1 i2 f1 f2 r1 r2 : ByteArray) (a1 a2 : Option Addr) (m1 n1 m2 n2 : Nat) (b1 b2 : Bool)
    (hWb : (w.alloc (.cells #[.int .i64 d1, .int .i64 o1, .string s1, .string v1, .string i1, .slice a1 m1 n1, .string f1, .string r1, .bool b1] 38)).alloc (.cells #[.int .i64 d1, .int .i64 o1, .string s2, .string v2, .string i2, .slice a2 m2 n2, .string f2, .string r2, .bool b2] 38) = Wb)
    (c0 : Wb.cell? ⟨w.heap.size, 0, none⟩ = some (.int .i64 d1)) (e0 : Wb.cell? ⟨w.heap.size + 1, 0, none⟩ = some (.int .i64 d1)) (c1 : Wb.cell? ⟨w.heap.size, 1, none⟩ = some (.int .i64 o1)) (e1 : Wb.cell? ⟨w.heap.size + 1, 1, none⟩ = some (.int .i64 o1)) (c2 : Wb.cell? ⟨w.heap.size, 2, none⟩ = some (.string s1)) (e2 : Wb.cell? ⟨w.heap.size + 1, 2, none⟩ = some (.string s2)) (k : (s1.toList == s2.toList) = false) :
    Calls Tryd.prog 26 #[.agg #[.int .i64 d1, .int .i64 o1, .string s1, .string v1, .string i1, .slice a1 m1 n1, .string f1, .string r1, .bool b1], .agg #[.int .i64 d1, .int .i64 o1, .string s2, .string v2, .string i2, .slice a2 m2 n2, .string f2, .string r2, .bool b2]] w fun e w' => e = .returned (.bool false) ∧ Below Wb.heap.size Wb w' := by
  go_enter Tryd.func26, Tryd.ntmps26
  go_upto_region 1 with fail
  clear hWb
  go_wp2_with fail
  go_ret
  exact ⟨rfl, Below.refl _ _⟩

set_option maxRecDepth 100000 in
set_option maxHeartbeats 4000000 in
theorem rn3 (w Wb : World) (d1 d2 o1 o2 : Int) (s1 s2 v1 v2 i1 i2 f1 f2 r1 r2 : ByteArray) (a1 a2 : Option Addr) (m1 n1 m2 n2 : Nat) (b1 b2 : Bool)
    (hWb : (w.alloc (.cells #[.int .i64 d1, .int .i64 o1, .string s1, .string v1, .string i1, .slice a1 m1 n1, .string f1, .string r1, .bool b1] 38)).alloc (.cells #[.int .i64 d1, .int .i64 o1, .string s1, .string v2, .string i2, .slice a2 m2 n2, .string f2, .string r2, .bool b2] 38) = Wb)
    (c0 : Wb.cell? ⟨w.heap.size, 0, none⟩ = some (.int .i64 d1)) (e0 : Wb.cell? ⟨w.heap.size + 1, 0, none⟩ = some (.int .i64 d1)) (c1 : Wb.cell? ⟨w.heap.size, 1, none⟩ = some (.int .i64 o1)) (e1 : Wb.cell? ⟨w.heap.size + 1, 1, none⟩ = some (.int .i64 o1)) (c2 : Wb.cell? ⟨w.heap.size, 2, none⟩ = some (.string s1)) (e2 : Wb.cell? ⟨w.heap.size + 1, 2, none⟩ = some (.string s1)) (c3 : Wb.cell? ⟨w.heap.size, 3, none⟩ = some (.string v1)) (e3 : Wb.cell? ⟨w.heap.size + 1, 3, none⟩ = some (.string v2)) (k : (v1.toList == v2.toList) = false) :
    Calls Tryd.prog 26 #[.agg #[.int .i64 d1, .int .i64 o1, .string s1, .string v1, .string i1, .slice a1 m1 n1, .string f1, .string r1, .bool b1], .agg #[.int .i64 d1, .int .i64 o1, .string s1, .string v2, .string i2, .slice a2 m2 n2, .string f2, .string r2, .bool b2]] w fun e w' => e = .returned (.bool false) ∧ Below Wb.heap.size Wb w' := by
  go_enter Tryd.func26, Tryd.ntmps26
  go_upto_region 1 with fail
  clear hWb
  go_wp2_with fail
  go_ret
  exact ⟨rfl, Below.refl _ _⟩

set_option maxRecDepth 100000 in
set_option maxHeartbeats 4000000 in
theorem rn4 (w Wb : World) (d1 d2 o1 o2 : Int) (s1 s2 v1 v2 i1 i2 f1 f2 r1 r2 : ByteArray) (a1 a2 : Option Addr) (m1 n1 m2 n2 : Nat) (b1 b2 : Bool)
    (hWb : (w.alloc (.cells #[.int .i64 d1, .int .i64 o1, .string s1, .string v1, .string i1, .slice a1 m1 n1, .string f1, .string r1, .bool b1] 38)).alloc (.cells #[.int .i64 d1, .int .i64 o1, .string s1, .string v1, .string i2, .slice a2 m2 n2, .string f2, .string r2, .bool b2] 38) = Wb)
    (c0 : Wb.cell? ⟨w.heap.size, 0, none⟩ = some (.int .i64 d1)) (e0 : Wb.cell? ⟨w.heap.size + 1, 0, none⟩ = some (.int .i64 d1)) (c1 : Wb.cell? ⟨w.heap.size, 1, none⟩ = some (.int .i64 o1)) (e1 : Wb.cell? ⟨w.heap.size + 1, 1, none⟩ = some (.int .i64 o1)) (c2 : Wb.cell? ⟨w.heap.size, 2, none⟩ = some (.string s1)) (e2 : Wb.cell? ⟨w.heap.size + 1, 2, none⟩ = some (.string s1)) (c3 : Wb.cell? ⟨w.heap.size, 3, none⟩ = some (.string v1)) (e3 : Wb.cell? ⟨w.heap.size + 1, 3, none⟩ = some (.string v1)) (c7 : Wb.cell? ⟨w.heap.size, 7, none⟩ = some (.string r1)) (e7 : Wb.cell? ⟨w.heap.size + 1, 7, none⟩ = some (.string r2)) (k : (r1.toList == r2.toList) = false) :
    Calls Tryd.prog 26 #[.agg #[.int .i64 d1, .int .i64 o1, .string s1, .string v1, .string i1, .slice a1 m1 n1, .string f1, .string r1, .bool b1], .agg #[.int .i64 d1, .int .i64 o1, .string s1, .string v1, .string i2, .slice a2 m2 n2, .string f2, .string r2, .bool b2]] w fun e w' => e = .returned (.bool false) ∧ Below Wb.heap.size Wb w' := by
  go_enter Tryd.func26, Tryd.ntmps26
  go_upto_region 1 with fail
  clear hWb
  go_wp2_with fail
  go_ret
  exact ⟨rfl, Below.refl _ _⟩

set_option maxRecDepth 100000 in
set_option maxHeartbeats 4000000 in
theorem rn5 (w Wb : World) (d1 d2 o1 o2 : Int) (s1 s2 v1 v2 i1 i2 f1 f2 r1 r2 : ByteArray) (a1 a2 : Option Addr) (m1 n1 m2 n2 : Nat) (b1 b2 : Bool)
    (hWb : (w.alloc (.cells #[.int .i64 d1, .int .i64 o1, .string s1, .string v1, .string i1, .slice a1 m1 n1, .string f1, .string r1, .bool b1] 38)).alloc (.cells #[.int .i64 d1, .int .i64 o1, .string s1, .string v1, .string i2, .slice a2 m2 n2, .string f2, .string r1, .bool b2] 38) = Wb)
    (c0 : Wb.cell? ⟨w.heap.size, 0, none⟩ = some (.int .i64 d1)) (e0 : Wb.cell? ⟨w.heap.size + 1, 0, none⟩ = some (.int .i64 d1)) (c1 : Wb.cell? ⟨w.heap.size, 1, none⟩ = some (.int .i64 o1)) (e1 : Wb.cell? ⟨w.heap.size + 1, 1, none⟩ = some (.int .i64 o1)) (c2 : Wb.cell? ⟨w.heap.size, 2, none⟩ = some (.string s1)) (e2 : Wb.cell? ⟨w.heap.size + 1, 2, none⟩ = some (.string s1)) (c3 : Wb.cell? ⟨w.heap.size, 3, none⟩ = some (.string v1)) (e3 : Wb.cell? ⟨w.heap.size + 1, 3, none⟩ = some (.string v1)) (c7 : Wb.cell? ⟨w.heap.size, 7, none⟩ = some (.string r1)) (e7 : Wb.cell? ⟨w.heap.size + 1, 7, none⟩ = some (.string r1)) (c8 : Wb.cell? ⟨w.heap.size, 8, none⟩ = some (.bool b1)) (e8 : Wb.cell? ⟨w.heap.size + 1, 8, none⟩ = some (.bool b2)) (k : (b1 == b2) = false) (k2 : (b1 != b2) = true) :
    Calls Tryd.prog 26 #[.agg #[.int .i64 d1, .int .i64 o1, .string s1, .string v1, .string i1, .slice a1 m1 n1, .string f1, .string r1, .bool b1], .agg #[.int .i64 d1, .int .i64 o1, .string s1, .string v1, .string i2, .slice a2 m2 n2, .string f2, .string r1, .bool b2]] w fun e w' => e = .returned (.bool false) ∧ Below Wb.heap.size Wb w' := by
  go_enter Tryd.func26, Tryd.ntmps26
  go_upto_region 1 with fail
  clear hWb
  go_wp2_with fail
  go_ret
  exact ⟨rfl, Below.refl _ _⟩

set_option maxRecDepth 100000 in
set_option maxHeartbeats 4000000 in
theorem rn6 (w Wb : World) (d1 d2 o1 o2 : Int) (s1 s2 v1 v2 i1 i2 f1 f2 r1 r2 : ByteArray) (a1 a2 : Option Addr) (m1 n1 m2 n2 : Nat) (b1 b2 : Bool)
    (hWb : (w.alloc (.cells #[.int .i64 d1, .int .i64 o1, .string s1, .string v1, .string i1, .slice a1 m1 n1, .string f1, .string r1, .bool b1] 38)).alloc (.cells #[.int .i64 d1, .int .i64 o1, .string s1, .string v1, .string i2, .slice a2 m2 n2, .string f2, .string r1, .bool b1] 38) = Wb)
    (c0 : Wb.cell? ⟨w.heap.size, 0, none⟩ = some (.int .i64 d1)) (e0 : Wb.cell? ⟨w.heap.size + 1, 0, none⟩ = some (.int .i64 d1)) (c1 : Wb.cell? ⟨w.heap.size, 1, none⟩ = some (.int .i64 o1)) (e1 : Wb.cell? ⟨w.heap.size + 1, 1, none⟩ = some (.int .i64 o1)) (c2 : Wb.cell? ⟨w.heap.size, 2, none⟩ = some (.string s1)) (e2 : Wb.cell? ⟨w.heap.size + 1, 2, none⟩ = some (.string s1)) (c3 : Wb.cell? ⟨w.heap.size, 3, none⟩ = some (.string v1)) (e3 : Wb.cell? ⟨w.heap.size + 1, 3, none⟩ = some (.string v1)) (c7 : Wb.cell? ⟨w.heap.size, 7, none⟩ = some (.string r1)) (e7 : Wb.cell? ⟨w.heap.size + 1, 7, none⟩ = some (.string r1)) (c8 : Wb.cell? ⟨w.heap.size, 8, none⟩ = some (.bool b1)) (e8 : Wb.cell? ⟨w.heap.size + 1, 8, none⟩ = some (.bool b1)) (c4 : Wb.cell? ⟨w.heap.size, 4, none⟩ = some (.string i1)) (e4 : Wb.cell? ⟨w.heap.size + 1, 4, none⟩ = some (.string i2)) (k : (i1.toList == i2.toList) = false) :
    Calls Tryd.prog 26 #[.agg #[.int .i64 d1, .int .i64 o1, .string s1, .string v1, .string i1, .slice a1 m1 n1, .string f1, .string r1, .bool b1], .agg #[.int .i64 d1, .int .i64 o1, .string s1, .string v1, .string i2, .slice a2 m2 n2, .string f2, .string r1, .bool b1]] w fun e w' => e = .returned (.bool false) ∧ Below Wb.heap.size Wb w' := by
  go_enter Tryd.func26, Tryd.ntmps26
  go_upto_region 1 with fail
  clear hWb
  go_upto_region 3 with fail
  go_wp2_with fail
  go_ret
  exact ⟨rfl, Below.refl _ _⟩

set_option maxRecDepth 100000 in
set_option maxHeartbeats 4000000 in
theorem rn7 (w Wb : World) (d1 d2 o1 o2 : Int) (s1 s2 v1 v2 i1 i2 f1 f2 r1 r2 : ByteArray) (a1 a2 : Option Addr) (m1 n1 m2 n2 : Nat) (b1 b2 : Bool)
    (hWb : (w.alloc (.cells #[.int .i64 d1, .int .i64 o1, .string s1, .string v1, .string i1, .slice a1 m1 n1, .string f1, .string r1, .bool b1] 38)).alloc (.cells #[.int .i64 d1, .int .i64 o1, .string s1, .string v1, .string i1, .slice a2 m2 n2, .string f2, .string r1, .bool b1] 38) = Wb)
    (c0 : Wb.cell? ⟨w.heap.size, 0, none⟩ = some (.int .i64 d1)) (e0 : Wb.cell? ⟨w.heap.size + 1, 0, none⟩ = some (.int .i64 d1)) (c1 : Wb.cell? ⟨w.heap.size, 1, none⟩ = some (.int .i64 o1)) (e1 : Wb.cell? ⟨w.heap.size + 1, 1, none⟩ = some (.int .i64 o1)) (c2 : Wb.cell? ⟨w.heap.size, 2, none⟩ = some (.string s1)) (e2 : Wb.cell? ⟨w.heap.size + 1, 2, none⟩ = some (.string s1)) (c3 : Wb.cell? ⟨w.heap.size, 3, none⟩ = some (.string v1)) (e3 : Wb.cell? ⟨w.heap.size + 1, 3, none⟩ = some (.string v1)) (c7 : Wb.cell? ⟨w.heap.size, 7, none⟩ = some (.string r1)) (e7 : Wb.cell? ⟨w.heap.size + 1, 7, none⟩ = some (.string r1)) (c8 : Wb.cell? ⟨w.heap.size, 8, none⟩ = some (.bool b1)) (e8 : Wb.cell? ⟨w.heap.size + 1, 8, none⟩ = some (.bool b1)) (c4 : Wb.cell? ⟨w.heap.size, 4, none⟩ = some (.string i1)) (e4 : Wb.cell? ⟨w.heap.size + 1, 4, none⟩ = some (.string i1)) (c6 : Wb.cell? ⟨w.heap.size, 6, none⟩ = some (.string f1)) (e6 : Wb.cell? ⟨w.heap.size + 1, 6, none⟩ = some (.string f2)) (k : (f1.toList == f2.toList) = false) :
    Calls Tryd.prog 26 #[.agg #[.int .i64 d1, .int .i64 o1, .string s1, .string v1, .string i1, .slice a1 m1 n1, .string f1, .string r1, .bool b1], .agg #[.int .i64 d1, .int .i64 o1, .string s1, .string v1, .string i1, .slice a2 m2 n2, .string f2, .string r1, .bool b1]] w fun e w' => e = .returned (.bool false) ∧ Below Wb.heap.size Wb w' := by
  go_enter Tryd.func26, Tryd.ntmps26
  go_upto_region 1 with fail
  clear hWb
  go_upto_region 3 with fail
  go_wp2_with fail
  go_ret
  exact ⟨rfl, Below.refl _ _⟩

set_option maxRecDepth 100000 in
set_option maxHeartbeats 4000000 in
theorem rn8 (w Wb : World) (d1 d2 o1 o2 : Int) (s1 s2 v1 v2 i1 i2 f1 f2 r1 r2 : ByteArray) (a1 a2 : Option Addr) (m1 n1 m2 n2 : Nat) (b1 b2 : Bool)
    (hWb : (w.alloc (.cells #[.int .i64 d1, .int .i64 o1, .string s1, .string v1, .string i1, .slice a1 m1 n1, .string f1, .string r1, .bool b1] 38)).alloc (.cells #[.int .i64 d1, .int .i64 o1, .string s1, .string v1, .string i1, .slice a2 m2 n2, .string f1, .string r1, .bool b1] 38) = Wb)
    (c0 : Wb.cell? ⟨w.heap.size, 0, none⟩ = some (.int .i64 d1)) (e0 : Wb.cell? ⟨w.heap.size + 1, 0, none⟩ = some (.int .i64 d1)) (c1 : Wb.cell? ⟨w.heap.size, 1, none⟩ = some (.int .i64 o1)) (e1 : Wb.cell? ⟨w.heap.size + 1, 1, none⟩ = some (.int .i64 o1)) (c2 : Wb.cell? ⟨w.heap.size, 2, none⟩ = some (.string s1)) (e2 : Wb.cell? ⟨w.heap.size + 1, 2, none⟩ = some (.string s1)) (c3 : Wb.cell? ⟨w.heap.size, 3, none⟩ = some (.string v1)) (e3 : Wb.cell? ⟨w.heap.size + 1, 3, none⟩ = some (.string v1)) (c7 : Wb.cell? ⟨w.heap.size, 7, none⟩ = some (.string r1)) (e7 : Wb.cell? ⟨w.heap.size + 1, 7, none⟩ = some (.string r1)) (c8 : Wb.cell? ⟨w.heap.size, 8, none⟩ = some (.bool b1)) (e8 : Wb.cell? ⟨w.heap.size + 1, 8, none⟩ = some (.bool b1)) (c4 : Wb.cell? ⟨w.heap.size, 4, none⟩ = some (.string i1)) (e4 : Wb.cell? ⟨w.heap.size + 1, 4, none⟩ = some (.string i1)) (c6 : Wb.cell? ⟨w.heap.size, 6, none⟩ = some (.string f1)) (e6 : Wb.cell? ⟨w.heap.size + 1, 6, none⟩ = some (.string f1)) (c5 : Wb.cell? ⟨w.heap.size, 5, none⟩ = some (.slice a1 m1 n1)) (e5 : Wb.cell? ⟨w.heap.size + 1, 5, none⟩ = some (.slice a2 m2 n2)) (k : ((m1 : Int) != (m2 : Int)) = true) (k2 : ((m1 : Int) == (m2 : Int)) = false) :
    Calls Tryd.prog 26 #[.agg #[.int .i64 d1, .int .i64 o1, .string s1, .string v1, .string i1, .slice a1 m1 n1, .string f1, .string r1, .bool b1], .agg #[.int .i64 d1, .int .i64 o1, .string s1, .string v1, .string i1, .slice a2 m2 n2, .string f1, .string r1, .bool b1]] w fun e w' => e = .returned (.bool false) ∧ Below Wb.heap.size Wb w' := by
  go_enter Tryd.func26, Tryd.ntmps26
  go_upto_region 1 with fail
  clear hWb
  go_upto_region 3 with fail
  go_wp2_with fail
  go_ret
  exact ⟨rfl, Below.refl _ _⟩

set_option maxRecDepth 100000 in
set_option maxHeartbeats 4000000 in
theorem rn9 (w Wb : World) (d1 o1 : Int) (s1 v1 i1 f1 r1 : ByteArray) (a1 a2 : Option Addr) (n1 n2 : Nat) (b1 : Bool) (l1 l2 : List (List UInt8))
    (hWb : (w.alloc (.cells #[.int .i64 d1, .int .i64 o1, .string s1, .string v1, .string i1, .slice a1 l1.length n1, .string f1, .string r1, .bool b1] 38)).alloc (.cells #[.int .i64 d1, .int .i64 o1, .string s1, .string v1, .string i1, .slice a2 l2.length n2, .string f1, .string r1, .bool b1] 38) = Wb)
    (c0 : Wb.cell? ⟨w.heap.size, 0, none⟩ = some (.int .i64 d1)) (e0 : Wb.cell? ⟨w.heap.size + 1, 0, none⟩ = some (.int .i64 d1)) (c1 : Wb.cell? ⟨w.heap.size, 1, none⟩ = some (.int .i64 o1)) (e1 : Wb.cell? ⟨w.heap.size + 1, 1, none⟩ = some (.int .i64 o1)) (c2 : Wb.cell? ⟨w.heap.size, 2, none⟩ = some (.string s1)) (e2 : Wb.cell? ⟨w.heap.size + 1, 2, none⟩ = some (.string s1)) (c3 : Wb.cell? ⟨w.heap.size, 3, none⟩ = some (.string v1)) (e3 : Wb.cell? ⟨w.heap.size + 1, 3, none⟩ = some (.string v1)) (c4 : Wb.cell? ⟨w.heap.size, 4, none⟩ = some (.string i1)) (e4 : Wb.cell? ⟨w.heap.size + 1, 4, none⟩ = some (.string i1)) (c5 : Wb.cell? ⟨w.heap.size, 5, none⟩ = some (.slice a1 l1.length n1)) (e5 : Wb.cell? ⟨w.heap.size + 1, 5, none⟩ = some (.slice a2 l2.length n2)) (c6 : Wb.cell? ⟨w.heap.size, 6, none⟩ = some (.string f1)) (e6 : Wb.cell? ⟨w.heap.size + 1, 6, none⟩ = some (.string f1)) (c7 : Wb.cell? ⟨w.heap.size, 7, none⟩ = some (.string r1)) (e7 : Wb.cell? ⟨w.heap.size + 1, 7, none⟩ = some (.string r1)) (c8 : Wb.cell? ⟨w.heap.size, 8, none⟩ = some (.bool b1)) (e8 : Wb.cell? ⟨w.heap.size + 1, 8, none⟩ = some (.bool b1)) (hlen : l1.length = l2.length) (hl : l1.length ≤ 1048576) (h1 : Row Wb a1 l1) (h2 : Row Wb a2 l2) :
    Calls Tryd.prog 26 #[.agg #[.int .i64 d1, .int .i64 o1, .string s1, .string v1, .string i1, .slice a1 l1.length n1, .string f1, .string r1, .bool b1], .agg #[.int .i64 d1, .int .i64 o1, .string s1, .string v1, .string i1, .slice a2 l2.length n2, .string f1, .string r1, .bool b1]] w fun e w' => e = .returned (.bool (decide (l1 = l2))) ∧ Below Wb.heap.size Wb w' := by
  have H : Hid (l1.length = l2.length ∧ Row Wb a1 l1 ∧ Row Wb a2 l2) := ⟨hlen, h1, h2⟩
  have hb0 : ((l1.length : Int) != (l2.length : Int)) = false := by rw [hlen]; simp
  clear hlen h1 h2
  go_enter Tryd.func26, Tryd.ntmps26
  go_upto_region 1 with fail
  clear hWb
  go_upto_region 3 with fail
  go_upto_region 5 with fail
  clear hb0 c0 e0 c1 e1 c2 e2 c3 e3 c4 e4 c6 e6 c7 e7 c8 e8
  go_wp2_with fail
  go_loopw [5] (fun iv wr => ∃ i q : Nat, i ≤ l1.length ∧ iv = .int .i64 (i : Int) ∧ Hid (l1.take i = l2.take i) ∧ Hid (wr = Wb.drewN q)) (fun iv _ => l1.length - (intOf iv).toNat)
  case atStart => exact ⟨0, 0, Nat.zero_le _, rfl, by unfold Hid; simp, rfl⟩
  case round =>
    obtain ⟨i, q, hi, rfl, htk, hw⟩ := hrel
    obtain ⟨hlen, h1, h2⟩ := H.out
    have hE : ∀ a, wr.cell? a = Wb.cell? a := fun a => by rw [hw.out]; rfl
    rw [← hE] at c5 e5
    by_cases hlt : i < l1.length
    · have hlk : i < l2.length := by omega
      obtain ⟨b1, p1, rfl, g1⟩ := h1 i hlt
      obtain ⟨b2, p2, rfl, g2⟩ := h2 i hlk
      rw [← hE] at g1 g2
      have j0 : (0 : Int) ≤ (i : Int) := Int.natCast_nonneg _
      have j1 : (i : Int) < (l1.length : Int) := Int.ofNat_lt.2 hlt
      have j2 : (i : Int) < (l2.length : Int) := Int.ofNat_lt.2 hlk
      have hlt' : Hid (i < l1.length) := hlt
      by_cases hx : l1[i] = l2[i]
      · have htk' : Hid (l1.take (i + 1) = l2.take (i + 1)) := take_step htk.out hlt hlk hx
        rw [← hx] at g2
        generalize S l1[i] = X at *
        clear hE hx hlen h1 h2 hlk hlt
        go_wp2_with fail
        go_quiet (fail)
        go_wp2_with fail
        go_roundw
        case rel => exact ⟨i + 1, _, hlt'.out, by simp, htk', by unfold Hid; rw [hw.out, World.drewN_drewN]⟩
        case measure => have := hlt'.out; simp [intOf]; omega
      · have hne := str_ne hx
        have hno : Hid (¬ l1 = l2) := ne_at hlt hlk hx
        generalize S l1[i] = X at *
        generalize S l2[i] = Y at *
        clear hE hx hlen h1 h2 hlk hlt
        go_wp2_with fail
        go_quiet (fail)
        go_wp2_with fail
        go_ret
        exact ⟨by rw [decide_eq_false hno.out]; rfl, by rw [hw.out, World.drewN_drewN]; exact drewN_below _ _ _⟩
    · have hle : i = l1.length := by omega
      subst hle
      have hyes : Hid (l1 = l2) := (whole_eq htk.out hlen)
      have k1 : ¬ (l1.length : Int) < (l1.length : Int) := by omega
      clear h1 h2 hlen hE
      go_wp2_with fail
      go_ret
      exact ⟨by rw [decide_eq_true hyes.out]; rfl, by rw [hw.out]; exact drewN_below _ _ _⟩

theorem rSame_any (x y : Nod) (w : World) (hx : x.l.length ≤ 1048576) (hy : y.l.length ≤ 1048576) (rx : Row w x.a x.l) (ry : Row w y.a y.l) :
    Calls Tryd.prog 26 #[.agg (nA x), .agg (nA y)] w fun e w' => e = .returned (.bool (nb x y)) ∧ Below w.heap.size w w' := by
  obtain ⟨d1, o1, s1, v1, i1, a1, n1, l1, f1, r1, b1⟩ := x
  obtain ⟨d2, o2, s2, v2, i2, a2, n2, l2, f2, r2, b2⟩ := y
  dsimp only at hx hy rx ry
  obtain ⟨Wa, hWa⟩ : ∃ W, w.alloc (.cells #[.int .i64 d1, .int .i64 o1, .string (S s1), .string (S v1), .string (S i1), .slice a1 l1.length n1, .string (S f1), .string (S r1), .bool b1] 38) = W := ⟨_, rfl⟩
  obtain ⟨Wb, hWb⟩ : ∃ W, Wa.alloc (.cells #[.int .i64 d2, .int .i64 o2, .string (S s2), .string (S v2), .string (S i2), .slice a2 l2.length n2, .string (S f2), .string (S r2), .bool b2] 38) = W := ⟨_, rfl⟩
  have na : Wa.heap.size = w.heap.size + 1 := by rw [← hWa]; simp
  have pa : Box Wa w.heap.size 38 #[.int .i64 d1, .int .i64 o1, .string (S s1), .string (S v1), .string (S i1), .slice a1 l1.length n1, .string (S f1), .string (S r1), .bool b1] := by rw [← hWa]; exact Box.new _ _ _
  have p : Box Wb w.heap.size 38 #[.int .i64 d1, .int .i64 o1, .string (S s1), .string (S v1), .string (S i1), .slice a1 l1.length n1, .string (S f1), .string (S r1), .bool b1] := by rw [← hWb]; exact pa.past _
  have q : Box Wb (w.heap.size + 1) 38 #[.int .i64 d2, .int .i64 o2, .string (S s2), .string (S v2), .string (S i2), .slice a2 l2.length n2, .string (S f2), .string (S r2), .bool b2] := by rw [← hWb, ← na]; exact Box.new _ _ _
  have hB : Below w.heap.size w Wb := by
    rw [← hWb, ← hWa]
    exact ((Below.refl _ _).alloc (Nat.le_refl _) _).alloc (by simp) _
  rw [← hWa] at hWb
  have c0 := (p.cell 0 (by simp)).1
  have c1 := (p.cell 1 (by simp)).1
  have c2 := (p.cell 2 (by simp)).1
  have c3 := (p.cell 3 (by simp)).1
  have c4 := (p.cell 4 (by simp)).1
  have c5 := (p.cell 5 (by simp)).1
  have c6 := (p.cell 6 (by simp)).1
  have c7 := (p.cell 7 (by simp)).1
  have c8 := (p.cell 8 (by simp)).1
  have e0 := (q.cell 0 (by simp)).1
  have e1 := (q.cell 1 (by simp)).1
  have e2 := (q.cell 2 (by simp)).1
  have e3 := (q.cell 3 (by simp)).1
  have e4 := (q.cell 4 (by simp)).1
  have e5 := (q.cell 5 (by simp)).1
  have e6 := (q.cell 6 (by simp)).1
  have e7 := (q.cell 7 (by simp)).1
  have e8 := (q.cell 8 (by simp)).1
  have fin : ∀ t, Calls Tryd.prog 26 #[.agg #[.int .i64 d1, .int .i64 o1, .string (S s1), .string (S v1), .string (S i1), .slice a1 l1.length n1, .string (S f1), .string (S r1), .bool b1], .agg #[.int .i64 d2, .int .i64 o2, .string (S s2), .string (S v2), .string (S i2), .slice a2 l2.length n2, .string (S f2), .string (S r2), .bool b2]] w (fun e w' => e = .returned (.bool t) ∧ Below Wb.heap.size Wb w') → nb (⟨d1, o1, s1, v1, i1, a1, n1, l1, f1, r1, b1⟩ : Nod) (⟨d2, o2, s2, v2, i2, a2, n2, l2, f2, r2, b2⟩ : Nod) = t → Calls Tryd.prog 26 #[.agg #[.int .i64 d1, .int .i64 o1, .string (S s1), .string (S v1), .string (S i1), .slice a1 l1.length n1, .string (S f1), .string (S r1), .bool b1], .agg #[.int .i64 d2, .int .i64 o2, .string (S s2), .string (S v2), .string (S i2), .slice a2 l2.length n2, .string (S f2), .string (S r2), .bool b2]] w fun e w' => e = .returned (.bool (nb (⟨d1, o1, s1, v1, i1, a1, n1, l1, f1, r1, b1⟩ : Nod) (⟨d2, o2, s2, v2, i2, a2, n2, l2, f2, r2, b2⟩ : Nod))) ∧ Below w.heap.size w w' := fun t h e => by
    rw [e]
    exact h.mono (fun e w' ⟨h1, h2⟩ => ⟨h1, hB.trans (h2.mono hB.size)⟩)
  show Calls Tryd.prog 26 #[.agg #[.int .i64 d1, .int .i64 o1, .string (S s1), .string (S v1), .string (S i1), .slice a1 l1.length n1, .string (S f1), .string (S r1), .bool b1], .agg #[.int .i64 d2, .int .i64 o2, .string (S s2), .string (S v2), .string (S i2), .slice a2 l2.length n2, .string (S f2), .string (S r2), .bool b2]] w fun e w' => e = .returned (.bool (nb (⟨d1, o1, s1, v1, i1, a1, n1, l1, f1, r1, b1⟩ : Nod) (⟨d2, o2, s2, v2, i2, a2, n2, l2, f2, r2, b2⟩ : Nod))) ∧ Below w.heap.size w w'
  by_cases h0 : d1 = d2
  · by_cases h1 : o1 = o2
    · by_cases h2 : s1 = s2
      · by_cases h3 : v1 = v2
        · by_cases h4 : r1 = r2
          · by_cases h5 : b1 = b2
            · by_cases h6 : i1 = i2
              · by_cases h7 : f1 = f2
                · by_cases h8 : l1.length = l2.length
                  · refine fin (decide (l1 = l2)) ?_ ?_
                    · subst h0 h1 h2 h3 h4 h5 h6 h7
                      exact rn9 w Wb d1 o1 (S s1) (S v1) (S i1) (S f1) (S r1) a1 a2 n1 n2 b1 l1 l2 hWb c0 e0 c1 e1 c2 e2 c3 e3 c4 e4 c5 e5 c6 e6 c7 e7 c8 e8 h8 hx (rx.below hB) (ry.below hB)
                    · by_cases hl : l1 = l2
                      · rw [decide_eq_true hl]
                        exact (nb_iff _ _).2 (by simp only [np, Prod.mk.injEq]; exact ⟨h0, h1, h2, h3, h6, hl, h7, h4, h5⟩)
                      · rw [decide_eq_false hl]
                        exact nb_no (fun h => hl (by simp only [np, Prod.mk.injEq] at h; exact h.2.2.2.2.2.1))
                  · refine fin false ?_ (nb_no (fun h => h8 (by simp only [np, Prod.mk.injEq] at h; exact congrArg List.length h.2.2.2.2.2.1)))
                    subst h0 h1 h2 h3 h4 h5 h6 h7
                    exact rn8 w Wb (d1) (d1) (o1) (o1) (S s1) (S s1) (S v1) (S v1) (S i1) (S i1) (S f1) (S f1) (S r1) (S r1) a1 a2 l1.length n1 l2.length n2 b1 b1 hWb c0 e0 c1 e1 c2 e2 c3 e3 c7 e7 c8 e8 c4 e4 c6 e6 c5 e5 (by simp; omega) (by simp; omega)
                · refine fin false ?_ (nb_no (fun h => h7 (by simp only [np, Prod.mk.injEq] at h; exact h.2.2.2.2.2.2.1)))
                  subst h0 h1 h2 h3 h4 h5 h6
                  exact rn7 w Wb (d1) (d1) (o1) (o1) (S s1) (S s1) (S v1) (S v1) (S i1) (S i1) (S f1) (S f2) (S r1) (S r1) a1 a2 l1.length n1 l2.length n2 b1 b1 hWb c0 e0 c1 e1 c2 e2 c3 e3 c7 e7 c8 e8 c4 e4 c6 e6 (str_ne h7)
              · refine fin false ?_ (nb_no (fun h => h6 (by simp only [np, Prod.mk.injEq] at h; exact h.2.2.2.2.1)))
                subst h0 h1 h2 h3 h4 h5
                exact rn6 w Wb (d1) (d1) (o1) (o1) (S s1) (S s1) (S v1) (S v1) (S i1) (S i2) (S f1) (S f2) (S r1) (S r1) a1 a2 l1.length n1 l2.length n2 b1 b1 hWb c0 e0 c1 e1 c2 e2 c3 e3 c7 e7 c8 e8 c4 e4 (str_ne h6)
            · refine fin false ?_ (nb_no (fun h => h5 (by simp only [np, Prod.mk.injEq] at h; exact h.2.2.2.2.2.2.2.2)))
              subst h0 h1 h2 h3 h4
              exact rn5 w Wb (d1) (d1) (o1) (o1) (S s1) (S s1) (S v1) (S v1) (S i1) (S i2) (S f1) (S f2) (S r1) (S r1) a1 a2 l1.length n1 l2.length n2 b1 b2 hWb c0 e0 c1 e1 c2 e2 c3 e3 c7 e7 c8 e8 (by simpa using h5) (by simpa using h5)
          · refine fin false ?_ (nb_no (fun h => h4 (by simp only [np, Prod.mk.injEq] at h; exact h.2.2.2.2.2.2.2.1)))
            subst h0 h1 h2 h3
            exact rn4 w Wb (d1) (d1) (o1) (o1) (S s1) (S s1) (S v1) (S v1) (S i1) (S i2) (S f1) (S f2) (S r1) (S r2) a1 a2 l1.length n1 l2.length n2 b1 b2 hWb c0 e0 c1 e1 c2 e2 c3 e3 c7 e7 (str_ne h4)
        · refine fin false ?_ (nb_no (fun h => h3 (by simp only [np, Prod.mk.injEq] at h; exact h.2.2.2.1)))
          subst h0 h1 h2
          exact rn3 w Wb (d1) (d1) (o1) (o1) (S s1) (S s1) (S v1) (S v2) (S i1) (S i2) (S f1) (S f2) (S r1) (S r2) a1 a2 l1.length n1 l2.length n2 b1 b2 hWb c0 e0 c1 e1 c2 e2 c3 e3 (str_ne h3)
      · refine fin false ?_ (nb_no (fun h => h2 (by simp only [np, Prod.mk.injEq] at h; exact h.2.2.1)))
        subst h0 h1
        exact rn2 w Wb (d1) (d1) (o1) (o1) (S s1) (S s2) (S v1) (S v2) (S i1) (S i2) (S f1) (S f2) (S r1) (S r2) a1 a2 l1.length n1 l2.length n2 b1 b2 hWb c0 e0 c1 e1 c2 e2 (str_ne h2)
    · refine fin false ?_ (nb_no (fun h => h1 (by simp only [np, Prod.mk.injEq] at h; exact h.2.1)))
      subst h0
      exact rn1 w Wb (d1) (d1) (o1) (o2) (S s1) (S s2) (S v1) (S v2) (S i1) (S i2) (S f1) (S f2) (S r1) (S r2) a1 a2 l1.length n1 l2.length n2 b1 b2 hWb c0 e0 c1 e1 (by simpa using h1) (by simpa using h1)
  · refine fin false ?_ (nb_no (fun h => h0 (by simp only [np, Prod.mk.injEq] at h; exact h.1)))
    exact rn0 w Wb (d1) (d2) (o1) (o2) (S s1) (S s2) (S v1) (S v2) (S i1) (S i2) (S f1) (S f2) (S r1) (S r2) a1 a2 l1.length n1 l2.length n2 b1 b2 hWb c0 e0 (by simpa using h0) (by simpa using h0)
end Go.Proofs.YtofghgggllfafaaDoor
