import Derived.Test.YtofghgggllfafaaDoorFlBas
import Derived.Test.YtofghgggllfafaaDoorChkLoop
namespace Go.Proofs.YtofghgggllfafaaDoor
open Go.RowKit
open TextMath
set_option linter.unusedVariables false

/-- May a node of this kind hold others? -/
def hol (op : Int) : Bool := decide (op = 0 ∨ op = 1 ∨ op = 2)
set_option maxRecDepth 100000 in
set_option maxHeartbeats 1000000 in
theorem holds_any (op : Int) (w : World) :
    Calls Tryd.prog 15 #[.int .i64 op] w fun e w' => e = .returned (.bool (hol op)) ∧ w' = w := by
  go_enter Tryd.func15, Tryd.ntmps15
  go_wp2_with fail
  all_goals go_ret
  all_goals (refine ⟨?_, rfl⟩; first | (simp_all [hol]; done) | (simp_all [hol]; rw [Bool.eq_iff_iff]; simp_all; done))
set_option maxRecDepth 100000 in
set_option maxHeartbeats 1000000 in
theorem rHolds_any (op : Int) (w : World) :
    Calls Tryd.prog 11 #[.int .i64 op] w fun e w' => e = .returned (.bool (hol op)) ∧ w' = w := by
  go_enter Tryd.func11, Tryd.ntmps11
  go_wp2_with fail
  all_goals go_ret
  all_goals (refine ⟨?_, rfl⟩; first | (simp_all [hol]; done) | (simp_all [hol]; rw [Bool.eq_iff_iff]; simp_all; done))
def vald (op : Int) : Bool := decide (op = 3 ∨ op = 5 ∨ op = 6 ∨ op = 8)
set_option maxRecDepth 100000 in
set_option maxHeartbeats 1000000 in
theorem valued_any (op : Int) (w : World) :
    Calls Tryd.prog 29 #[.int .i64 op] w fun e w' => e = .returned (.bool (vald op)) ∧ w' = w := by
  go_enter Tryd.func29, Tryd.ntmps29
  go_wp2_with fail
  all_goals go_ret
  all_goals (refine ⟨?_, rfl⟩; first | (simp_all [vald]; done) | (simp_all [vald]; rw [Bool.eq_iff_iff]; simp_all; done))
/-- Has a pattern nothing? -/
def nop (i f : ByteArray) (m : Nat) : Bool := decide (i.toList = [] ∧ m = 0 ∧ f.toList = [])
set_option maxRecDepth 100000 in
set_option maxHeartbeats 1000000 in
theorem noPiece_any (i1 f1 : ByteArray) (a1 : Option Addr) (m1 n1 : Nat) (w : World) :
    Calls Tryd.prog 34 #[.agg #[.string i1, .slice a1 m1 n1, .string f1]] w fun e w' => e = .returned (.bool (nop i1 f1 m1)) ∧ Below w.heap.size w w' := by
  obtain ⟨Wb, hWb⟩ : ∃ W, w.alloc (.cells #[.string i1, .slice a1 m1 n1, .string f1] 36) = W := ⟨_, rfl⟩
  have p : Box Wb w.heap.size 36 #[.string i1, .slice a1 m1 n1, .string f1] := by rw [← hWb]; exact Box.new _ _ _
  have hB : Hid (Below w.heap.size w Wb) := by rw [← hWb]; exact (Below.refl _ _).alloc (Nat.le_refl _) _
  have c0 : Wb.cell? ⟨w.heap.size, 0, none⟩ = some (.string i1) := (p.cell 0 (by simp)).1
  have c1 : Wb.cell? ⟨w.heap.size, 1, none⟩ = some (.slice a1 m1 n1) := (p.cell 1 (by simp)).1
  have c2 : Wb.cell? ⟨w.heap.size, 2, none⟩ = some (.string f1) := (p.cell 2 (by simp)).1
  clear p
  go_enter Tryd.func34, Tryd.ntmps34
  go_upto_region 1 with fail
  clear hWb
  go_wp2_with fail
  all_goals go_ret
  all_goals (refine ⟨?_, hB.out⟩; clear hB c0 c1 c2; first | (simp_all [nop]; done) | (simp_all [nop]; rw [Bool.eq_iff_iff]; simp_all; done))
set_option maxRecDepth 100000 in
set_option maxHeartbeats 1000000 in
theorem noParts_any (i1 f1 : ByteArray) (a1 : Option Addr) (m1 n1 : Nat) (w : World) :
    Calls Tryd.prog 28 #[.agg #[.string i1, .slice a1 m1 n1, .string f1]] w fun e w' => e = .returned (.bool (nop i1 f1 m1)) ∧ Below w.heap.size w w' := by
  obtain ⟨Wb, hWb⟩ : ∃ W, w.alloc (.cells #[.string i1, .slice a1 m1 n1, .string f1] 36) = W := ⟨_, rfl⟩
  have p : Box Wb w.heap.size 36 #[.string i1, .slice a1 m1 n1, .string f1] := by rw [← hWb]; exact Box.new _ _ _
  have hB : Hid (Below w.heap.size w Wb) := by rw [← hWb]; exact (Below.refl _ _).alloc (Nat.le_refl _) _
  have c0 : Wb.cell? ⟨w.heap.size, 0, none⟩ = some (.string i1) := (p.cell 0 (by simp)).1
  have c1 : Wb.cell? ⟨w.heap.size, 1, none⟩ = some (.slice a1 m1 n1) := (p.cell 1 (by simp)).1
  have c2 : Wb.cell? ⟨w.heap.size, 2, none⟩ = some (.string f1) := (p.cell 2 (by simp)).1
  clear p
  go_enter Tryd.func28, Tryd.ntmps28
  go_upto_region 1 with fail
  clear hWb
  go_wp2_with fail
  all_goals go_ret
  all_goals (refine ⟨?_, hB.out⟩; clear hB c0 c1 c2; first | (simp_all [nop]; done) | (simp_all [nop]; rw [Bool.eq_iff_iff]; simp_all; done))
/-- Is a text UTF-8? -/
def utf (s : ByteArray) : Bool := (check s.data.toList).1
theorem utf_err (s : ByteArray) : ∃ e p : Int, chkV s.data.toList = .tuple #[.int .i64 e, .int .i64 p] ∧ utf s = decide (e = 0) := by
  refine ⟨_, _, rfl, ?_⟩
  unfold utf
  cases h : (check s.data.toList).1 <;> simp
set_option maxRecDepth 100000 in
set_option maxHeartbeats 1000000 in
theorem isUTF8_any (s : ByteArray) (w : World) (hm : s.size ≤ maxLen) :
    Calls Tryd.prog 36 #[.string s] w fun e w' => e = .returned (.bool (utf s)) ∧ w' = w := by
  obtain ⟨e, p, h1, h2⟩ := utf_err s
  have hC := check_any s w hm
  rw [h1] at hC
  rw [h2]
  have hC' : Hid (Calls Tryd.prog 41 #[.string s] w fun r w' => r = .returned (.tuple #[.int .i64 e, .int .i64 p]) ∧ w' = w) := hC
  clear hC h1 h2
  go_enter Tryd.func36, Tryd.ntmps36
  go_wp2_with (go_at_call 41; refine hC'.out.mono ?_; rintro r w' ⟨rfl, rfl⟩)
  all_goals go_ret
  all_goals (refine ⟨?_, rfl⟩; first | (simp_all; done) | (simp_all; rw [Bool.eq_iff_iff]; simp_all; done))
/-- A node's values, where the texts are bytes. -/
abbrev nB (d o : Int) (s v i : ByteArray) (a : Option Addr) (m n : Nat) (f r : ByteArray) (b : Bool) : Array Value := #[.int .i64 d, .int .i64 o, .string s, .string v, .string i, .slice a m n, .string f, .string r, .bool b]
theorem box_nineB {W : World} {g : Nat} {t : TypeId} {d o : Int} {s v i : ByteArray} {a : Option Addr} {m n : Nat} {f r : ByteArray} {b : Bool} (h : Box W g t (nB d o s v i a m n f r b)) : W.cell? ⟨g, 0, none⟩ = some (.int .i64 d) ∧ W.cell? ⟨g, 1, none⟩ = some (.int .i64 o) ∧ W.cell? ⟨g, 2, none⟩ = some (.string s) ∧ W.cell? ⟨g, 3, none⟩ = some (.string v) ∧ W.cell? ⟨g, 4, none⟩ = some (.string i) ∧ W.cell? ⟨g, 5, none⟩ = some (.slice a m n) ∧ W.cell? ⟨g, 6, none⟩ = some (.string f) ∧ W.cell? ⟨g, 7, none⟩ = some (.string r) ∧ W.cell? ⟨g, 8, none⟩ = some (.bool b) :=
  ⟨(h.cell 0 (by simp)).1, (h.cell 1 (by simp)).1, (h.cell 2 (by simp)).1, (h.cell 3 (by simp)).1, (h.cell 4 (by simp)).1, (h.cell 5 (by simp)).1, (h.cell 6 (by simp)).1, (h.cell 7 (by simp)).1, (h.cell 8 (by simp)).1⟩
/-- Has a node but its Op and Depth nothing? -/
def emp (s v i f r : ByteArray) (m : Nat) (b : Bool) : Bool := decide (s.toList = []) && decide (v.toList = []) && nop i f m && decide (r.toList = []) && !b
set_option maxRecDepth 100000 in
set_option maxHeartbeats 2000000 in
theorem empty_any (d o : Int) (s v i : ByteArray) (a : Option Addr) (m n : Nat) (f r : ByteArray) (b : Bool) (w : World) :
    Calls Tryd.prog 37 #[.agg #[.int .i64 d, .int .i64 o, .string s, .string v, .string i, .slice a m n, .string f, .string r, .bool b]] w fun e w' => e = .returned (.bool (emp s v i f r m b)) ∧ Below w.heap.size w w' := by
  obtain ⟨Wb, hWb⟩ : ∃ W, w.alloc (.cells #[.int .i64 d, .int .i64 o, .string s, .string v, .string i, .slice a m n, .string f, .string r, .bool b] 38) = W := ⟨_, rfl⟩
  have p : Box Wb w.heap.size 38 (nB d o s v i a m n f r b) := by rw [← hWb]; exact Box.new _ _ _
  have hB : Hid (Below w.heap.size w Wb) := by rw [← hWb]; exact (Below.refl _ _).alloc (Nat.le_refl _) _
  obtain ⟨c0, c1, c2, c3, c4, c5, c6, c7, c8⟩ := box_nineB p
  have hK : Hid (∀ W, Below Wb.heap.size Wb W → W.cell? ⟨w.heap.size, 7, none⟩ = some (.string r) ∧ W.cell? ⟨w.heap.size, 8, none⟩ = some (.bool b)) := fun W hb => ⟨((p.below hb).cell 7 (by simp)).1, ((p.below hb).cell 8 (by simp)).1⟩
  have hN : Hid (Calls Tryd.prog 34 #[.agg #[.string i, .slice a m n, .string f]] Wb fun e w' => e = .returned (.bool (nop i f m)) ∧ Below Wb.heap.size Wb w') := noPiece_any i f a m n Wb
  clear p
  unfold emp
  generalize nop i f m = t at *
  go_enter Tryd.func37, Tryd.ntmps37
  go_upto_region 1 with fail
  clear hWb
  go_wp2_with (go_at_call 34; refine hN.out.mono ?_; rintro e w' ⟨rfl, hb⟩; obtain ⟨C7, C8⟩ := hK.out w' hb)
  all_goals go_ret
  all_goals (first | (refine ⟨?_, hB.out.trans (hb.mono hB.out.size)⟩; clear hB hN hK C7 C8 c0 c1 c2 c3 c4 c5 c6 c7 c8 hb; first | (simp_all; done) | (simp_all; rw [Bool.eq_iff_iff]; simp_all; done)) | (refine ⟨?_, hB.out⟩; clear hB hN hK c0 c1 c2 c3 c4 c5 c6 c7 c8; first | (simp_all; done) | (simp_all; rw [Bool.eq_iff_iff]; simp_all; done)))
end Go.Proofs.YtofghgggllfafaaDoor
