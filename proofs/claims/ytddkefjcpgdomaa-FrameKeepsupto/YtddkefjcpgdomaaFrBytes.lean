import Derived.Test.YtddkefjcpgdomaaFrOwn
import Derived.Great.BuildSlice
import Derived.Lib.AppendStr
namespace Go.Proofs.Ytddkefjcpgdomaa
open Go.RowKit

/-- A value that is the call's own row of bytes. -/
def Own (W : World) (B : Nat) (v : Value) (l : List UInt8) : Prop := W.ownsRow B 5 1 v l.length (bv l)
/-- One byte appended to a row of the call's own. -/
theorem push_byte_at (w : World) {ops : Array Oper} {rest : List Oper} {o : Oper} {a : Act} {Q : Exit → Act → World → Prop} (hgd : o.guard = none) (s x : Operand)
    (ho : o.op = .call { callee := .builtin .append, args := #[s, x], argTypes := #[45, 45] }) (B : Nat) (v : Value) (l : List UInt8) (c : UInt8) (g : Nat)
    (hs : a.eval s = v) (hx : a.eval x = .slice (some ⟨g, 0, none⟩) 1 1) (hg : g = w.heap.size) (hown : Own w B v l) (hB : B ≤ w.heap.size) (hl : l.length ≤ 1099511627776)
    (h : ∀ v' w', Own w' B v' (l ++ [c]) → Below B w w' → wpList Try.prog ops Q rest (a.put o.dst v') w') :
    wpList Try.prog ops Q (o :: rest) a (w.alloc (.cells #[.int .u8 (c.toNat : Int)] 5)) := by
  subst hg
  obtain ⟨i0, hi, hz0, hz1, hz2⟩ := info_parts info_u8
  refine wpList_append_own _ hgd s x 45 ho B 5 i0 (.int .u8 0) 1 1 Try.underlying45 hi hz0 hz1 hz2 rfl (by decide) v l.length (bv l) hs (World.ownsRow.alloc hown _) ⟨w.heap.size, 0, none⟩ 1 1 [.int .u8 (c.toNat : Int)] hx rfl ?_ ?_ ?_ ?_ ?_ ?_
  · exact cell_one_new _ _ _
  · intro u hu; simp at hu; subst hu; rfl
  · unfold maxLen; omega
  · omega
  · simp; omega
  · intro v' w' h1 h2 _
    refine h v' w' ?_ ?_
    · unfold Own
      rw [bv_app, List.length_append]
      exact h1
    · refine ((Below.refl _ _).alloc hB _).grown h2 (by simp; omega) ?_
      intro k hk
      have := hown.lt _ hk
      exact this.1
theorem own_two (W : World) (B : Nat) (f g : UInt8) (hB : B ≤ W.heap.size) : Own (W.alloc (.cells #[.int .u8 (f.toNat : Int), .int .u8 (g.toNat : Int)] 5)) B (.slice (some ⟨W.heap.size, 0, none⟩) 2 2) [f, g] :=
  ⟨rfl, Or.inr ⟨W.heap.size, 2, #[.int .u8 (f.toNat : Int), .int .u8 (g.toNat : Int)], rfl, hB, heap_alloc_new W _, Nat.le_refl _, by unfold maxLen; omega, rfl, rfl⟩⟩
theorem own_conv {w : World} {B : Nat} {v : Value} {l : List UInt8} (h : Own w B v l) : (convert 45 9 v).run Try.prog w = .ok (.string (S l)) w :=
  own_back_any w B 45 9 5 v l.length l Try.underlying45 Try.underlying5 Try.underlying9 h
theorem own_slice {w : World} {B : Nat} {v : Value} {l : List UInt8} (h : Own w B v l) : ∃ a n c, v = .slice a n c := by
  rcases h.2 with ⟨rfl, hn⟩ | ⟨g, cap, cur, rfl, _⟩
  · exact ⟨_, _, _, rfl⟩
  · exact ⟨_, _, _, rfl⟩

/-- The bytes of a length up to 4096, by their places. -/
def bt (n j : Nat) : UInt8 := if j = 0 then UInt8.ofNat (n % 256) else if j = 1 then UInt8.ofNat (n / 256) else 0
def bs (n : Nat) : Nat → List UInt8
  | 0 => []
  | j + 1 => bt n j :: bs n j
theorem bs_len (n k : Nat) : (bs n k).length = k := by
  induction k with
  | zero => rfl
  | succ k ih => show (bt n k :: bs n k).length = _; simp [ih]
theorem u8_of (n : Nat) (h : n < 256) : (UInt8.ofNat n).toNat = n := by simp; omega
theorem bt0 (n : Nat) : IntKind.u8.wrap (n : Int) = ((bt n 0).toNat : Int) := by
  show (n : Int) % 256 = _
  unfold bt
  rw [if_pos rfl, u8_of _ (by omega)]
  omega
theorem bt1 (n : Nat) (h : n ≤ 4096) : IntKind.u8.wrap ((n : Int) / 256) = ((bt n 1).toNat : Int) := by
  show ((n : Int) / 256) % 256 = _
  unfold bt
  rw [if_neg (by omega), if_pos rfl, u8_of _ (by omega)]
  omega
/-- The header of a message with a body of n bytes: k further length bytes. -/
def hd (k n : Nat) : List UInt8 := if k = 0 then [48, UInt8.ofNat n] else 48 :: UInt8.ofNat (128 + k) :: bs n k
def okHd (k n : Nat) : Prop := k ≤ 4 ∧ (k = 0 → n ≤ 127) ∧ (k = 1 → n ≤ 255) ∧ n ≤ 4096
end Go.Proofs.Ytddkefjcpgdomaa
