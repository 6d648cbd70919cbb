import Derived.Test.YtkiidlnimjjnlaaDoorBInt
import Derived.Great.BuildSlice
import Derived.Lib.AppendStr
import Derived.Deep.DeepCutAuto
namespace Go.Proofs.YtkiidlnimjjnlaaDoor
open Go.RowKit
open BerMath (lo)

/-- The bytes that a length takes behind its length byte. -/
def ll (n : Nat) : Nat := if n < 128 then 0 else if n < 256 then 1 else if n < 65536 then 2 else if n < 16777216 then 3 else 4
/-- A length in its shortest form. -/
def lenB (n : Nat) : List UInt8 :=
  if n < 128 then [lo (n : Int)] else if n < 256 then [129, lo (n : Int)] else if n < 65536 then [130, lo ((n : Int) / 256), lo (n : Int)] else if n < 16777216 then [131, lo ((n : Int) / 65536), lo ((n : Int) / 256), lo (n : Int)]
  else [132, lo ((n : Int) / 16777216), lo ((n : Int) / 65536), lo ((n : Int) / 256), lo (n : Int)]
theorem lenB_len (n : Nat) : (lenB n).length = ll n + 1 := by
  unfold lenB ll; repeat' split
  all_goals rfl
theorem ll_cases (n : Nat) : (n < 128 ∧ ll n = 0) ∨ (¬ n < 128 ∧ n < 256 ∧ ll n = 1) ∨ (¬ n < 128 ∧ ¬ n < 256 ∧ n < 65536 ∧ ll n = 2) ∨ (¬ n < 128 ∧ ¬ n < 256 ∧ ¬ n < 65536 ∧ n < 16777216 ∧ ll n = 3) ∨ (¬ n < 128 ∧ ¬ n < 256 ∧ ¬ n < 65536 ∧ ¬ n < 16777216 ∧ ll n = 4) := by
  unfold ll; repeat' split
  all_goals omega

theorem longLength_any (n : Nat) (w : World) : Calls Tryd.prog 73 #[.int .i64 (n : Int)] w fun r w' => r = .returned (.int .i64 (ll n : Int)) ∧ w = w' := by
  obtain ⟨d, hd⟩ : ∃ d : List Bool, d = [decide ((n : Int) < 128), decide ((n : Int) < 256), decide ((n : Int) < 65536), decide ((n : Int) < 16777216)] := ⟨_, rfl⟩
  rcases ll_cases n with ⟨a, e⟩ | ⟨a, b, e⟩ | ⟨a, b, c, e⟩ | ⟨a, b, c, d', e⟩ | ⟨a, b, c, d', e⟩
  all_goals rw [e]
  · have d1 : decide ((n : Int) < 128) = true := decide_eq_true (by omega)
    clear a e hd
    go_enter Tryd.func73, Tryd.ntmps73
    go_wp2
    go_ret
    exact ⟨rfl, rfl⟩
  · have d1 : decide ((n : Int) < 128) = false := decide_eq_false (by omega)
    have d2 : decide ((n : Int) < 256) = true := decide_eq_true (by omega)
    clear a b e hd
    go_enter Tryd.func73, Tryd.ntmps73
    go_wp2
    go_ret
    exact ⟨rfl, rfl⟩
  · have d1 : decide ((n : Int) < 128) = false := decide_eq_false (by omega)
    have d2 : decide ((n : Int) < 256) = false := decide_eq_false (by omega)
    have d3 : decide ((n : Int) < 65536) = true := decide_eq_true (by omega)
    clear a b c e hd
    go_enter Tryd.func73, Tryd.ntmps73
    go_wp2
    go_ret
    exact ⟨rfl, rfl⟩
  · have d1 : decide ((n : Int) < 128) = false := decide_eq_false (by omega)
    have d2 : decide ((n : Int) < 256) = false := decide_eq_false (by omega)
    have d3 : decide ((n : Int) < 65536) = false := decide_eq_false (by omega)
    have d4 : decide ((n : Int) < 16777216) = true := decide_eq_true (by omega)
    clear a b c d' e hd
    go_enter Tryd.func73, Tryd.ntmps73
    go_wp2
    go_ret
    exact ⟨rfl, rfl⟩
  · have d1 : decide ((n : Int) < 128) = false := decide_eq_false (by omega)
    have d2 : decide ((n : Int) < 256) = false := decide_eq_false (by omega)
    have d3 : decide ((n : Int) < 65536) = false := decide_eq_false (by omega)
    have d4 : decide ((n : Int) < 16777216) = false := decide_eq_false (by omega)
    clear a b c d' e hd
    go_enter Tryd.func73, Tryd.ntmps73
    go_wp2
    go_ret
    exact ⟨rfl, rfl⟩

/-- A value that is the call's own row of bytes. -/
def Own (W : World) (B : Nat) (v : Value) (l : List UInt8) : Prop := W.ownsRow B 5 1 v l.length (bv l)

/-- One byte appended to a row of the call's own. -/
theorem push_byte (w : World) {ops : Array Oper} {rest : List Oper} {o : Oper} {a : Act} {Q : Exit → Act → World → Prop} (hgd : o.guard = none) (s x : Operand)
    (ho : o.op = .call { callee := .builtin .append, args := #[s, x], argTypes := #[68, 68] }) (B : Nat) (v : Value) (l : List UInt8) (c : UInt8)
    (hs : a.eval s = v) (hx : a.eval x = .slice (some ⟨w.heap.size, 0, none⟩) 1 1) (hown : Own w B v l) (hB : B ≤ w.heap.size) (hl : l.length ≤ 1099511627776)
    (h : ∀ v' w', Own w' B v' (l ++ [c]) → Below B w w' → wpList Tryd.prog ops Q rest (a.put o.dst v') w') :
    wpList Tryd.prog ops Q (o :: rest) a (w.alloc (.cells #[.int .u8 (c.toNat : Int)] 5)) := by
  obtain ⟨i0, hi, hz0, hz1, hz2⟩ := info_parts info_u8
  refine wpList_append_own _ hgd s x 68 ho B 5 i0 (.int .u8 0) 1 1 Tryd.underlying68 hi hz0 hz1 hz2 rfl (by decide) v l.length (bv l) hs (World.ownsRow.alloc hown _) ⟨w.heap.size, 0, none⟩ 1 1 [.int .u8 (c.toNat : Int)] hx rfl ?_ ?_ ?_ ?_ ?_ ?_
  · exact cell_one_new _ _ _
  · intro u hu; simp at hu; subst hu; rfl
  · unfold maxLen; omega
  · omega
  · simp; omega
  · intro v' w' h1 h2 _
    refine h v' w' ?_ ?_
    · unfold Own
      rw [bv_app, List.length_append]
      exact h1
    · refine ((Below.refl _ _).alloc hB _).grown h2 (by simp; omega) ?_
      intro k hk
      have := hown.lt _ hk
      exact this.1
end Go.Proofs.YtkiidlnimjjnlaaDoor
