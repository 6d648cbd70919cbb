import Derived.Test.YtkiidlnimjjnlaaDoorBJoin3
import Derived.Deep.RegionWith
namespace Go.Proofs.YtkiidlnimjjnlaaDoor
open Go.RowKit
open BerMath (lo)

/-- May the class and the tag be written? -/
def fineB (c t : Int) : Bool := decide (0 ≤ c) && decide (c ≤ 3) && decide (0 ≤ t) && decide (t ≤ 30)
theorem fineB_iff (c t : Int) (h : fineB c t = true) : ∃ c' t' : Nat, c = (c' : Int) ∧ t = (t' : Int) ∧ c' ≤ 3 ∧ t' ≤ 30 := by
  unfold fineB at h
  simp at h
  exact ⟨c.toNat, t.toNat, by omega, by omega, by omega, by omega⟩

theorem writable_any (c t : Int) (w : World) : Calls Tryd.prog 62 #[.int .i64 c, .int .i64 t] w fun r w' => r = .returned (.bool (fineB c t)) ∧ w = w' := by
  obtain ⟨a1, h1⟩ : ∃ a, decide ((0 : Int) ≤ c) = a := ⟨_, rfl⟩
  obtain ⟨a2, h2⟩ : ∃ a, decide (c ≤ 3) = a := ⟨_, rfl⟩
  obtain ⟨a3, h3⟩ : ∃ a, decide ((0 : Int) ≤ t) = a := ⟨_, rfl⟩
  obtain ⟨a4, h4⟩ : ∃ a, decide (t ≤ 30) = a := ⟨_, rfl⟩
  have e : fineB c t = (a1 && a2 && a3 && a4) := by unfold fineB; rw [h1, h2, h3, h4]
  rw [e]
  clear e
  cases a1 <;> cases a2 <;> cases a3 <;> cases a4
  all_goals
    go_enter Tryd.func62, Tryd.ntmps62
    go_wp2
    go_ret
    exact ⟨rfl, rfl⟩
theorem fine_any (c t : Int) (w : World) : Calls Tryd.prog 47 #[.int .i64 c, .int .i64 t] w fun r w' => r = .returned (.bool (fineB c t)) ∧ w = w' := by
  obtain ⟨a1, h1⟩ : ∃ a, decide ((0 : Int) ≤ c) = a := ⟨_, rfl⟩
  obtain ⟨a2, h2⟩ : ∃ a, decide (c ≤ 3) = a := ⟨_, rfl⟩
  obtain ⟨a3, h3⟩ : ∃ a, decide ((0 : Int) ≤ t) = a := ⟨_, rfl⟩
  obtain ⟨a4, h4⟩ : ∃ a, decide (t ≤ 30) = a := ⟨_, rfl⟩
  have e : fineB c t = (a1 && a2 && a3 && a4) := by unfold fineB; rw [h1, h2, h3, h4]
  rw [e]
  clear e
  cases a1 <;> cases a2 <;> cases a3 <;> cases a4
  all_goals
    go_enter Tryd.func47, Tryd.ntmps47
    go_wp2
    go_ret
    exact ⟨rfl, rfl⟩
theorem tooLong_any (n : Nat) (w : World) : Calls Tryd.prog 63 #[.int .i64 (n : Int)] w fun r w' => r = .returned (.bool (decide (4294967295 < (n : Int)))) ∧ w = w' := by
  obtain ⟨a, h⟩ : ∃ a, decide (4294967295 < (n : Int)) = a := ⟨_, rfl⟩
  rw [h]
  go_enter Tryd.func63, Tryd.ntmps63
  go_wp2
  go_ret
  exact ⟨rfl, rfl⟩
theorem headerSize_any (n : Nat) (w : World) : Calls Tryd.prog 64 #[.int .i64 (n : Int)] w fun r w' => r = .returned (.int .i64 ((2 + ll n : Nat) : Int)) ∧ w = w' := by
  have hLL : ∀ W, Hid (Calls Tryd.prog 73 #[.int .i64 (n : Int)] W fun r w' => r = .returned (.int .i64 (ll n : Int)) ∧ W = w') := fun W => longLength_any n W
  have h4 : ll n ≤ 4 := by have := ll_cases n; omega
  obtain ⟨k, hk⟩ : ∃ k, ll n = k := ⟨_, rfl⟩
  rw [hk] at hLL h4
  rw [hk]
  have hw : wrap64 (2 + (k : Int)) = ((2 + k : Nat) : Int) := by unfold wrap64; omega
  have hw' : Hid (wrap64 (2 + (k : Int)) = ((2 + k : Nat) : Int)) := hw
  clear hk
  go_enter Tryd.func64, Tryd.ntmps64
  go_wp2_with (go_at_call 73; refine (hLL _).out.mono ?_; rintro r w1 ⟨rfl, rfl⟩)
  go_ret
  exact ⟨by first | rfl | (rw [← hw'.out]; rfl), rfl⟩

theorem mk_cap (N : Nat) (hN : N ≤ 140737488355328) (W : World) : (Instr.makeSlice 68 (.int .i64 0) (.int .i64 (N : Int))).run Tryd.prog W = .ok (.slice (some ⟨W.heap.size, 0, none⟩) 0 N) (W.alloc (.cells (madeCells #[.int .u8 0] N) 5)) := by
  obtain ⟨i0, hi, hz0, hz1, hz2⟩ := info_parts info_u8
  have hr := run_make (P := Tryd.prog) W 68 5 i0 (.int .u8 0) Tryd.underlying68 hi hz0 .i64 .i64 0 (N : Int) (Int.le_refl _) (by omega) (by rw [hz2]; omega) (by omega)
  simp only [Int.toNat_zero, Int.toNat_natCast, hz1, Nat.mul_one] at hr
  exact hr
theorem own_made (W : World) (B N : Nat) (hB : B ≤ W.heap.size) (hN : N ≤ 140737488355328) : Own (W.alloc (.cells (madeCells #[.int .u8 0] N) 5)) B (.slice (some ⟨W.heap.size, 0, none⟩) 0 N) [] := by
  unfold Own
  exact World.ownsRow_made W _ N hB (by unfold maxLen; omega) (by rw [size_madeCells, Nat.mul_one])

/-- A string appended to a row of the call's own. -/
theorem push_str (w : World) {ops : Array Oper} {rest : List Oper} {o : Oper} {a : Act} {Q : Exit → Act → World → Prop} (hgd : o.guard = none) (s x : Operand)
    (ho : o.op = .call { callee := .builtin .append, args := #[s, x], argTypes := #[68, 9] }) (B : Nat) (v : Value) (l : List UInt8) (str : ByteArray)
    (hs : a.eval s = v) (hx : a.eval x = .string str) (hown : Own w B v l) (hB : B ≤ w.heap.size) (hl : l.length + str.size ≤ 1099511627776)
    (h : ∀ v' w', Own w' B v' (l ++ str.data.toList) → Below B w w' → wpList Tryd.prog ops Q rest (a.put o.dst v') w') :
    wpList Tryd.prog ops Q (o :: rest) a w := by
  obtain ⟨i0, hi, hz0, hz1, hz2⟩ := info_parts info_u8
  refine Lib.wpList_append_own_string _ hgd s x 68 9 ho B 5 i0 Tryd.underlying68 Tryd.underlying9 hi hz0 hz1 hz2 v l.length (bv l) hs hown str hx (by unfold maxLen; omega) (by omega) hB ?_
  intro v' w' h1 h2 _
  refine h v' w' ?_ ?_
  · unfold Own
    rw [bv_app, List.length_append, size_l]
    exact h1
  · refine (Below.refl _ _).grown h2 hB ?_
    intro k hk
    exact (hown.lt _ hk).1
end Go.Proofs.YtkiidlnimjjnlaaDoor
